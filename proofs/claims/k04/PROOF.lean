import PyProof.Rows.All
import Wide.All
import OpenK.AllK
import Wide.FinOn
import HandS.ForMost
import HandS.Deep
import HandS.IsInst
import HandS.TupLe
import HandS.TupAny
import HandS.TupSets
import HandS.Style
import HandS.Zip
import HandS.More
import HandS.SortInts
import HandS.Codes
import HandS.Walk
import HandS.Iter
import KE.GoesEnum
import PyProof.Rows.SortShell
import HandS.Conv
import HandS.OwnEq
import PyProof.InstNe
import HandS.Strs
import PyProof.WalksMore
import KE.KDictPairs
import KE.KDictCopyH
import KE.KDictKeyed
import HandS.SetFor
import HandS.Exc
import HandS.ExcInit
import HandS.ExcIs
import HandS.ExcField
import HandS.WordsExc
import HandS.CallSlots
import KE.KExcIs
import PyProof.FactsAll.dict
import HandS.TupMul
import PySem.Challenge.RW_growalong_k04_records_judged_and_compare
set_option Elab.async false
set_option linter.all false
set_option maxRecDepth 100000
set_option maxHeartbeats 4000000
/-! ## GA -/
namespace GA
open PySem L2

/-! ### heaps: what stays -/
/-- tuples stay -/
def Ts (H H' : Hp) : Prop := ∀ a xs, Rd H a (.tup xs) → Rd H' a (.tup xs)
/-- the hand of draws: a list at hd whose first item is the list of ints at c -/
def Hand (H : Hp) (hd c : Addr) : Prop := c ≠ hd ∧ (∃ ns : List Int, H c = some (.lst (ns.map V.int))) ∧ ∃ (i b m k : Int), H hd = some (.lst [.ref c, .int i, .int b, .int m, .int k]) ∧ 0 ≤ i
/-- all that stood stands, but for the hand's own list -/
structure G (o : Option (Addr × Addr)) (H H' : Hp) : Prop where
  keep : ∀ a u, (∀ p, o = some p → a ≠ p.1) → H a = some u → H' a = some u
  tups : Ts H H'
  hand : ∀ p, o = some p → Hand H p.1 p.2 → Hand H' p.1 p.2
theorem G.refl {o : Option (Addr × Addr)} {H : Hp} : G o H H := ⟨fun _ _ _ h => h, fun _ _ h => h, fun _ _ h => h⟩
theorem G.trans {o : Option (Addr × Addr)} {H H1 H2 : Hp} (a : G o H H1) (b : G o H1 H2) : G o H H2 :=
  ⟨fun x u n h => b.keep x u n (a.keep x u n h), fun x xs h => b.tups x xs (a.tups x xs h), fun p e h => b.hand p e (a.hand p e h)⟩
theorem G.all {H H' : Hp} (g : G none H H') (a : Addr) (u : HO) (h : H a = some u) : H' a = some u := g.keep a u (fun p e => nomatch e) h
theorem G.of_all {o : Option (Addr × Addr)} {H H' : Hp} (k : ∀ a u, H a = some u → H' a = some u) : G o H H' :=
  ⟨fun a u _ h => k a u h, fun a xs h => h.elim (fun h => .inl (k _ _ h)) fun ⟨ob, h⟩ => .inr ⟨ob, k _ _ h⟩,
    fun p _ ⟨n, ⟨ns, h1⟩, i, b, m, z, h2, h3⟩ => ⟨n, ⟨ns, k _ _ h1⟩, i, b, m, z, k _ _ h2, h3⟩⟩
theorem G.up {o : Option (Addr × Addr)} {H H' : Hp} (g : G none H H') : G o H H' := G.of_all g.all
theorem G.alloc {o : Option (Addr × Addr)} {H : Hp} {p : Addr} {u : HO} (h : H p = none) : G o H (upd H p u) := G.of_all fun a w e => by
  rw [upd_ne (ne_of_none e h)]; exact e
/-- a thing that H does not know is changed -/
theorem G.mut {o : Option (Addr × Addr)} {H H' : Hp} {l : Addr} {u : HO} (g : G o H H') (h : H l = none) (hh : ∀ p, o = some p → Hand H p.1 p.2) : G o H (upd H' l u) := by
  refine ⟨fun a w n e => ?_, fun a xs e => ?_, fun p e x => ?_⟩
  · rw [upd_ne (ne_of_none e h)]; exact g.keep a w n e
  · have ne : a ≠ l := by
      rcases e with e | ⟨ob, e⟩ <;> exact ne_of_none e h
    rcases g.tups a xs e with q | ⟨ob, q⟩
    · exact .inl (by rw [upd_ne ne]; exact q)
    · exact .inr ⟨ob, by rw [upd_ne ne]; exact q⟩
  · obtain ⟨n0, ⟨ns0, h0⟩, i0, b0, m0, k0, h1, _⟩ := hh p e
    obtain ⟨n, ⟨ns, h2⟩, i, b, m, k, h3, h4⟩ := g.hand p e x
    exact ⟨n, ⟨ns, by rw [upd_ne (ne_of_none h0 h)]; exact h2⟩, i, b, m, k, by rw [upd_ne (ne_of_none h1 h)]; exact h3, h4⟩
theorem Hand.ne {H : Hp} {hd c l : Addr} (x : Hand H hd c) (h : H l = none) : l ≠ hd := fun e => by
  obtain ⟨_, _, _, _, _, _, h1, _⟩ := x
  rw [← e, h] at h1; cases h1
/-- an address that is not the hand's -/
def Off (o : Option (Addr × Addr)) (a : Addr) : Prop := ∀ p, o = some p → a ≠ p.1
theorem off_none {a : Addr} : Off none a := fun _ e => nomatch e
theorem off_new {hd c l : Addr} {H : Hp} (x : Hand H hd c) (h : H l = none) : Off (some (hd, c)) l := fun p e => by cases e; exact x.ne h
theorem off_ins {hd c a C dx : Addr} {fs : List (Str × V)} {H : Hp} (x : Hand H hd c) (h : H a = some (.ins C dx fs)) : Off (some (hd, c)) a := fun p e => by
  cases e
  obtain ⟨_, _, _, _, _, _, h1, _⟩ := x
  exact ne_of h h1 (by intro z; cases z)
theorem off_dK {hd c a : Addr} {kvs : List (Key × V)} {H : Hp} (x : Hand H hd c) (h : H a = some (.dK kvs)) : Off (some (hd, c)) a := fun p e => by
  cases e
  obtain ⟨_, _, _, _, _, _, h1, _⟩ := x
  exact ne_of h h1 (by intro z; cases z)

/-! ### data without lists -/
mutual
def nl : PyData → Bool
  | .list _ => false
  | .dict _ => false
  | .tuple ds => nls ds
  | .none => true
  | .bool _ => true
  | .int _ => true
  | .str _ => true
def nls : List PyData → Bool
  | [] => true
  | d :: ds => nl d && nls ds
end
theorem nls_iff : ∀ {ds : List PyData}, nls ds = true ↔ ∀ d ∈ ds, nl d = true
  | [] => by simp [nls]
  | d :: ds => by simp [nls, nls_iff (ds := ds)]
section
variable {K : PySem.W.Frag} {H H' : Hp}
theorem sqT_t (t : Ts H H') {a : Addr} {xs : List V} (h : SqT K H a xs) : SqT K H' a xs := h.elim (fun h => .inl (t _ _ h)) .inr
mutual
theorem dp_t (t : Ts H H') : ∀ (d : PyData) (v : V), nl d = true → Dp K H v d → Dp K H' v d
  | .none, _, _, h => by cases h; exact .non
  | .bool b, _, _, h => by cases h; exact .bl b
  | .int i, _, _, h => by cases h; exact .int i
  | .str x, _, _, h => by cases h; exact .str x
  | .list ds, _, n, _ => by simp [nl] at n
  | .dict ds, _, n, _ => by simp [nl] at n
  | .tuple ds, _, n, h => by
    cases h with
    | tup hs ha => exact .tup (sqT_t t hs) (dpAll_t t ds _ (by simpa [nl] using n) ha)
theorem dpAll_t (t : Ts H H') : ∀ (ds : List PyData) (vs : List V), nls ds = true → DpAll K H vs ds → DpAll K H' vs ds
  | [], _, _, h => by cases h; exact .nil
  | d :: ds, _, n, h => by
    cases h with
    | cons h1 h2 =>
      have n' : nl d = true ∧ nls ds = true := by simpa [nls] using n
      exact .cons (dp_t t d _ n'.1 h1) (dpAll_t t ds _ n'.2 h2)
end
theorem DpAll.length : ∀ {vs : List V} {ds : List PyData}, DpAll K H vs ds → vs.length = ds.length
  | _, _, .nil => rfl
  | _, _, .cons _ t => by simp [DpAll.length t]
theorem DpAll.get : ∀ {vs : List V} {ds : List PyData} {i : Nat} {v : V}, DpAll K H vs ds → vs[i]? = some v → ∃ d, ds[i]? = some d ∧ Dp K H v d
  | _, _, _, _, .nil, e => by simp at e
  | _, _, 0, _, .cons h _, e => by simp at e; subst e; exact ⟨_, rfl, h⟩
  | _, _, i + 1, v, .cons _ t, e => by
    obtain ⟨d, h1, h2⟩ := DpAll.get (i := i) (v := v) t (by simpa using e)
    exact ⟨d, by simpa using h1, h2⟩
theorem DpAll.get' : ∀ {vs : List V} {ds : List PyData} {i : Nat} {d : PyData}, DpAll K H vs ds → ds[i]? = some d → ∃ v, vs[i]? = some v ∧ Dp K H v d
  | _, _, _, _, .nil, e => by simp at e
  | _, _, 0, _, .cons h _, e => by simp at e; subst e; exact ⟨_, rfl, h⟩
  | _, _, i + 1, d, .cons _ t, e => by
    obtain ⟨v, h1, h2⟩ := DpAll.get' (i := i) (d := d) t (by simpa using e)
    exact ⟨v, by simpa using h1, h2⟩
theorem DpAll.app : ∀ {vs ws : List V} {ds es : List PyData}, DpAll K H vs ds → DpAll K H ws es → DpAll K H (vs ++ ws) (ds ++ es)
  | _, _, _, _, .nil, h => h
  | _, _, _, _, .cons h t, h' => .cons h (DpAll.app t h')
theorem DpAll.one {v : V} {d : PyData} (h : Dp K H v d) : DpAll K H [v] [d] := .cons h .nil
theorem DpAll.ints : ∀ (ns : List Int), DpAll K H (ns.map V.int) (ns.map PyData.int)
  | [] => .nil
  | n :: ns => .cons (.int n) (DpAll.ints ns)
theorem DpAll.of_ints : ∀ {ns : List Int} {vs : List V}, DpAll K H vs (ns.map PyData.int) → vs = ns.map V.int
  | [], _, .nil => rfl
  | n :: ns, _, .cons h t => by cases h; rw [DpAll.of_ints t]; rfl
end
/-- a tuple of ints, a pair, a tuple of pairs -/
abbrev dI (ns : List Int) : PyData := .tuple (ns.map PyData.int)
abbrev dP (w : Int × Int) : PyData := .tuple [.int w.1, .int w.2]
abbrev dW (ws : List (Int × Int)) : PyData := .tuple (ws.map dP)
theorem nls_ints (ns : List Int) : nls (ns.map PyData.int) = true := by rw [nls_iff]; intro d h; simp only [List.mem_map] at h; obtain ⟨n, _, rfl⟩ := h; rfl
theorem nls_pairs (ws : List (Int × Int)) : nls (ws.map dP) = true := by rw [nls_iff]; intro d h; simp only [List.mem_map] at h; obtain ⟨n, _, rfl⟩ := h; rfl
theorem nl_dI (ns : List Int) : nl (dI ns) = true := by show nls _ = true; exact nls_ints ns
theorem nl_dP (w : Int × Int) : nl (dP w) = true := rfl
theorem nl_dW (ws : List (Int × Int)) : nl (dW ws) = true := by show nls _ = true; exact nls_pairs ws
section
variable {K : PySem.W.Frag} {H H' : Hp}
theorem dp_dI {v : V} {ns : List Int} (h : Dp K H v (dI ns)) : ∃ a, v = .ref a ∧ SqT K H a (ns.map V.int) := by
  cases h with
  | tup hs ha => exact ⟨_, rfl, by rw [← DpAll.of_ints ha]; exact hs⟩
theorem dp_dP {v : V} {w : Int × Int} (h : Dp K H v (dP w)) : ∃ a, v = .ref a ∧ SqT K H a [.int w.1, .int w.2] := by
  cases h with
  | tup hs ha =>
    cases ha with
    | cons h1 t =>
      cases t with
      | cons h2 t =>
        cases t; cases h1; cases h2
        exact ⟨_, rfl, hs⟩
theorem dp_tup {v : V} {ds : List PyData} (h : Dp K H v (.tuple ds)) : ∃ a vs, v = .ref a ∧ SqT K H a vs ∧ DpAll K H vs ds := by
  cases h with
  | tup hs ha => exact ⟨_, _, rfl, hs, ha⟩
theorem dp_ofI {a : Addr} {ns : List Int} (h : SqT K H a (ns.map V.int)) : Dp K H (.ref a) (dI ns) := .tup h (DpAll.ints ns)
theorem dp_ofP {a : Addr} {i j : Int} (h : SqT K H a [.int i, .int j]) : Dp K H (.ref a) (dP (i, j)) := .tup h (.cons (.int i) (.cons (.int j) .nil))
end

/-! ### steps: a reading by its first part -/
section
variable {K : PySem.W.Frag} {σ : L2.St} {H : Hp} {Q : VK} {QB : Bool → Hp → Prop} {D : Ends} {ta tb tc te : TE} {t u : TT} {ts tu : TS} {r r' : R2} {v x y : V} {i j : Int} {n : Nat} {b : Bool} {A B : Prop}
theorem w_var {i : Nat} (h : σ[i]? = some (some v)) (q : Q v H) : tVar i σ H Q := ⟨v, h, q⟩
theorem w_c (q : Q v H) : tC v σ H Q := q
theorem w_op (q : ta σ H fun x H1 => tb σ H1 fun y H2 => r x y H2 Q) : tOp r ta tb σ H Q := q
theorem w_un {f : V → Hp → VK → Prop} (q : ta σ H fun x H1 => f x H1 Q) : tUn f ta σ H Q := q
theorem w_seq (q : ts { D with nx := tu D } σ H) : tSeq ts tu D σ H := q
theorem w_next (q : D.nx σ H) : tNext D σ H := q
theorem w_break (q : D.bk σ H) : tBreak D σ H := q
theorem w_set {i : Nat} (q : te σ H fun x H1 => D.nx (σ.set i (some x)) H1) : tAsg te (gName i) D σ H := q
theorem w_asg {g : TG} (q : te σ H fun x H1 => g x σ H1 D.nx) : tAsg te g D σ H := q
theorem w_drop (q : te σ H fun _ H1 => D.nx σ H1) : tDrop te D σ H := q
theorem w_ret (q : te σ H D.rt) : tRet te D σ H := q
theorem w_retN (q : D.rt .non H) : tRetN D σ H := q
theorem w_ifS (q : t σ H fun b H1 => if b = true then ts D σ H1 else tu D σ H1) : tIfS t ts tu D σ H := q
theorem w_test (q : te σ H fun x H' => ∃ k, x = .bl k ∧ QB k H') : tTest te σ H QB := q
theorem w_tB (q : te σ H fun x H' => ∃ k, x = .bl k ∧ QB k H') : tB te σ H QB := q
theorem w_bl (q : QB b H) : ∃ k, V.bl b = .bl k ∧ QB k H := ⟨b, rfl, q⟩
theorem w_not (q : t σ H fun c H1 => QB (!c) H1) : tNot t σ H QB := q
theorem w_and (q : t σ H fun c H1 => if c = true then u σ H1 QB else QB false H1) : tAnd t u σ H QB := q
theorem w_or (q : t σ H fun c H1 => if c = true then QB true H1 else u σ H1 QB) : tOr t u σ H QB := q
theorem w_andV (q : ta σ H fun x H1 => ∃ c, x = .bl c ∧ if c = true then tb σ H1 Q else Q (.bl false) H1) : tAndV ta tb σ H Q := q
theorem w_orV (q : ta σ H fun x H1 => ∃ c, x = .bl c ∧ if c = true then Q (.bl true) H1 else tb σ H1 Q) : tOrV ta tb σ H Q := q
theorem w_notV (q : ta σ H fun x H1 => ∃ c, x = .bl c ∧ Q (.bl (!c)) H1) : tNotV ta σ H Q := q
theorem w_if (q : t σ H fun c H1 => if c = true then ta σ H1 Q else tb σ H1 Q) : tIf t ta tb σ H Q := q
theorem w_blc {F : Bool → Prop} (q : F b) : ∃ c, V.bl b = .bl c ∧ F c := ⟨b, rfl, q⟩
theorem w_nil {QA : List V → Hp → Prop} (q : QA [] H) : tNil σ H QA := q
theorem w_cons {tr : TA} {QA : List V → Hp → Prop} (q : te σ H fun x H1 => tr σ H1 fun xs H2 => QA (x :: xs) H2) : tCons te tr σ H QA := q
theorem w_CB {f : List V → Hp → VK → Prop} {tr : TA} (q : tr σ H fun vs H1 => f vs H1 Q) : tCB f tr σ H Q := q
theorem w_call {sp : Sp} {E : XK} {tr : TA} (q : tr σ H fun vs H1 => sp (vs ++ []) H1 Q E) : tCall sp [] E tr σ H Q := q
theorem w_tup {tr : TA} (q : tr σ H fun xs H1 => xs.length ≤ sizeLine ∧ ∀ p, H1 p = none → Q (.ref p) (upd H1 p (.tup xs))) : tTup tr σ H Q := q
theorem w_lst {tr : TA} (q : tr σ H fun xs H1 => xs.length ≤ sizeLine ∧ ∀ p, H1 p = none → Q (.ref p) (upd H1 p (.lst xs))) : tLst tr σ H Q := q
theorem w_chain (q : ta σ H fun x H1 => tb σ H1 fun y H2 => r x y H2 fun z H3 => ∃ k, z = .bl k ∧ (if k = true then tc σ H3 fun w' H4 => r' y w' H4 Q else Q (.bl false) H3)) : tChain r r' ta tb tc σ H Q := q
theorem w_sl {f : V → Option Int → Option Int → Hp → VK → Prop} {tl th : TO} (q : te σ H fun x H1 => tl σ H1 fun l H2 => th σ H2 fun u H3 => f x l u H3 Q) : tSl f te tl th σ H Q := q
theorem w_part {QO : Option Int → Hp → Prop} (q : te σ H fun x H1 => ∃ i, x = .int i ∧ QO (some i) H1) : tPart te σ H QO := q
theorem w_noPart {QO : Option Int → Hp → Prop} (q : QO none H) : tNoPart σ H QO := q
theorem w_inti {F : Int → Prop} (q : F i) : ∃ k, V.int i = .int k ∧ F k := ⟨i, rfl, q⟩
theorem w_fld {f : Str} (q : te σ H fun x H1 => ∃ a C dx fs v, x = .ref a ∧ H1 a = some (.ins C dx fs) ∧ Cls K C ∧ NoAttr K C f ∧ fs.lookup f = some v ∧ Q v H1) : tFld K te f σ H Q := q
theorem w_sfld {f : Str} (q : tb σ H fun y H1 => ta σ H1 fun x H2 => ∃ a C dx fs, x = .ref a ∧ H2 a = some (.ins C dx fs) ∧ Cls K C ∧ NoAttr K C f ∧ fs.length < 1000 ∧ D.nx σ (upd H2 a (.ins C dx (putF f y fs)))) : sFld K ta tb f D σ H := q
theorem w_gsub {to ti : TE} {s : TSet} {QS : L2.St → Hp → Prop} (q : to σ H fun o H1 => ti σ H1 fun i H2 => s o i v H2 fun H3 => QS σ H3) : gSub to ti s v σ H QS := q
theorem w_gname {i : Nat} {QS : L2.St → Hp → Prop} (q : QS (σ.set i (some v)) H) : gName i v σ H QS := q
/-! by values -/
theorem r_I0 {g : Int → Int → V} (q : Q (g i j) H) : rI0 g (.int i) (.int j) H Q := ⟨i, j, rfl, rfl, q⟩
theorem r_I {C : Int → Int → Prop} {g : Int → Int → V} (c : C i j) (q : Q (g i j) H) : rI C g (.int i) (.int j) H Q := ⟨i, j, rfl, rfl, c, q⟩
theorem r_U {g : Int → V} (q : Q (g i) H) : rU g (.int i) H Q := ⟨i, rfl, q⟩
theorem r_eqI (q : Q (.bl (decide (i = j))) H) : rEq (.int i) (.int j) H Q := ⟨rfl, by
  have e : decide (V.int i = V.int j) = decide (i = j) := by simp
  rw [e]; exact q⟩
theorem r_neI (q : Q (.bl (!decide (i = j))) H) : rNe (.int i) (.int j) H Q := ⟨rfl, by
  have e : decide (V.int i = V.int j) = decide (i = j) := by simp
  rw [e]; exact q⟩
theorem r_eqB {a b : Bool} (q : Q (.bl (decide (a = b))) H) : rEq (.bl a) (.bl b) H Q := ⟨rfl, by
  have e : decide (V.bl a = V.bl b) = decide (a = b) := by simp
  rw [e]; exact q⟩
theorem r_neB {a b : Bool} (q : Q (.bl (!decide (a = b))) H) : rNe (.bl a) (.bl b) H Q := ⟨rfl, by
  have e : decide (V.bl a = V.bl b) = decide (a = b) := by simp
  rw [e]; exact q⟩
theorem r_ixT {p : Addr} {xs : List V} (h : SqT K H p xs) (e : atI xs i = some v) (q : Q v H) : rIxT K (.ref p) (.int i) H Q := ⟨p, xs, i, v, rfl, rfl, h, e, q⟩
theorem r_ixL {p : Addr} {xs : List V} (h : SqL K H p xs) (e : atI xs i = some v) (q : Q v H) : rIxL K (.ref p) (.int i) H Q := ⟨p, xs, i, v, rfl, rfl, h, e, q⟩
theorem w_ite (h1 : b = true → A) (h2 : b = false → B) : if b = true then A else B := by
  cases b with
  | true => exact h1 rfl
  | false => exact h2 rfl
theorem w_newT {o : Option (Addr × Addr)} {xs : List V} (q : ∀ p H1, H p = none → G o H H1 → H1 p = some (.tup xs) → Q (.ref p) H1) (hz : xs.length ≤ 100000 := by simp) : xs.length ≤ sizeLine ∧ ∀ p, H p = none → Q (.ref p) (upd H p (.tup xs)) :=
  ⟨Nat.le_trans hz (by decide), fun p hp => q p _ hp (G.alloc hp) upd_same⟩
theorem w_newL {o : Option (Addr × Addr)} {xs : List V} (q : ∀ p H1, H p = none → G o H H1 → H1 p = some (.lst xs) → Q (.ref p) H1) (hz : xs.length ≤ 100000 := by simp) : xs.length ≤ sizeLine ∧ ∀ p, H p = none → Q (.ref p) (upd H p (.lst xs)) :=
  ⟨Nat.le_trans hz (by decide), fun p hp => q p _ hp (G.alloc hp) upd_same⟩
end
end GA
/-! ## GB -/
namespace PySem
open Sem (wp)
open AutoSeq1 (wpAny_loadPart')
theorem ga_enumerate_newT (l : Addr) (items : Array Value) :
    Meets (Builtin.«enumerate.__new__» ⟨[.type "enumerate", .ref l], []⟩) (fun _ R s => s.heap.IsTuple l items ∧
      R (.ok (.ret (.ref (s.heap.push { cls := .type "tuple_iterator", data := .fields #[.ref l, .int 0 0] }).objs.size)))
        { s with heap := (s.heap.push { cls := .type "tuple_iterator", data := .fields #[.ref l, .int 0 0] }).push { cls := .type "enumerate", data := .fields #[.none, .bool false, .ref s.heap.objs.size, rawInt 0, .none, .none] } }) :=
  .of_wp fun prog w A R s h => by
    obtain ⟨hp, g, d, tk, os⟩ := s; obtain ⟨hl, h⟩ := h
    have hsub := sub_enumerate
    have hL : Heap.IsTuple (Shared.heap ⟨hp, g, d, tk, os⟩) l items := hl
    obtain ⟨ob, hob, _⟩ := id hl
    wp_walk using wpAny_loadPart' hob
    refine wpAny_stack_any fun st => wpAny_pure ?_
    split
    · rename_i c _ _ _ _ _
      cases (c == Value.type "enumerate")
      · wp_walk using wpAny_loadPart' hob, wpAny_pyIter_tuple hL
        exact ⟨_, rfl, h⟩
      · wp_walk using wpAny_loadPart' hob, wpAny_pyIter_tuple hL
        exact ⟨_, rfl, h⟩
    · wp_walk using wpAny_loadPart' hob, wpAny_pyIter_tuple hL
      exact ⟨_, rfl, h⟩
theorem ga_enumerate_tuple {prog : Program} {w : World} {A : Around} {E : Value → Shared → Prop} {s : Shared} {l : Addr} {items : Array Value} {Q : Value → Shared → Prop} (hL : s.heap.IsTuple l items)
    (h : ∀ h', IsEnum h' (s.heap.objs.size + 1) s.heap.objs.size 0 .none → h'.IsTupleIter s.heap.objs.size l 0 → h'.objs.size = s.heap.objs.size + 2 →
      (∀ b o, s.heap.get? b = some o → h'.get? b = some o) → Q (.ref (s.heap.objs.size + 1)) { s with heap := h' }) :
    wpAny (model prog w) A (call (.type "enumerate") [.ref l]) Q E s := by
  refine callType_new F.called_enumerate (by decide) (F.typeCall_enumerate_1 _) (F.newCall_enumerate_1 _) (fun obj => F.args_object_init_2 obj _) F.entry_enumerate_new
    (ga_enumerate_newT l items) ⟨hL, ?_⟩
  have hz : (s.heap.push { cls := .type "tuple_iterator", data := .fields #[.ref l, .int 0 0] }).objs.size = s.heap.objs.size + 1 := Heap.size_push ..
  show _ ∧ _
  rw [hz]
  have he : IsEnum ((s.heap.push { cls := .type "tuple_iterator", data := .fields #[.ref l, .int 0 0] }).push
      { cls := .type "enumerate", data := .fields #[.none, .bool false, .ref s.heap.objs.size, rawInt 0, .none, .none] }) (s.heap.objs.size + 1) s.heap.objs.size 0 .none := by
    have := Heap.get?_push_size (s.heap.push { cls := .type "tuple_iterator", data := .fields #[.ref l, .int 0 0] })
      (o := { cls := .type "enumerate", data := .fields #[.none, .bool false, .ref s.heap.objs.size, rawInt 0, .none, .none] }) rfl
    rw [hz] at this; exact this
  refine ⟨⟨_, he, rfl⟩, h _ he ⟨_, Heap.get?_push_of_some _ (Heap.get?_push_size _ rfl), rfl, rfl⟩ (by rw [Heap.size_push, hz]) fun b o x => Heap.get?_push_of_some _ (Heap.get?_push_of_some _ x)⟩
end PySem
namespace GA
open PySem PySem.Spec PyProof.Rows L2
/-- enumerate over a tuple -/
def IteT (K : PySem.W.Frag) (a : Addr) : It :=
  ⟨fun i H => ∃ (xs : List V) (x : V), SqT K H a xs ∧ xs[i]? = some x, fun i H v H' => ∃ T x, v = .ref T ∧ H T = none ∧ H' = upd H T (.tup [.int (i : Nat), x]) ∧ ∀ xs, SqT K H a xs → xs[i]? = some x, fun i H => ∃ xs : List V, SqT K H a xs ∧ xs.length ≤ i⟩
theorem turn_enumT {P : Program} {w : World} {K : PySem.W.Frag} {elts : List Expr} {kk : Nat} {tpos : Pos} (a e it : Addr) (nai : a ≠ it) (nae : a ≠ e) :
    Turn P w K (.Tuple elts kk tpos) (IteT K a) [e, it] e (fun i h => (∃ old, IsEnum h e it ((i : Nat) : Int) old) ∧ h.IsTupleIter it a i ∧ e ≠ it) where
  mem := by simp
  obj := fun i h st b hb => by
    obtain ⟨⟨old, he⟩, ⟨o, ho, hc, hd⟩, _⟩ := st
    have e' : b = e ∨ b = it := by simpa using hb
    rcases e' with z | z
    · rw [z]; exact ⟨_, he, fun v q => nomatch q⟩
    · rw [z]; exact ⟨o, ho, fun v q => by rw [hd] at q; cases q⟩
  keep := fun i h h' st k => let ⟨⟨old, he⟩, hi, hne⟩ := st; ⟨⟨old, k e (by simp) _ he⟩, hi.at fun o q => k it (by simp) o q, hne⟩
  item := by
    intro X hP hw hK hc i pins s σ H E I hf st hg
    subst hP hw hK
    obtain ⟨⟨old, he⟩, hit, hne⟩ := st
    obtain ⟨xs, x, hq, hx⟩ := hg
    obtain ⟨its, rv, p, hz⟩ := I.tuple hq
    obtain ⟨u, hu, ru⟩ := rv.get hx
    have hel : e < s.heap.objs.size := Heap.lt_size he
    have hil : it < s.heap.objs.size := by obtain ⟨_, q, _⟩ := hit; exact Heap.lt_size q
    have hi : i < its.toArray.size := by
      have := (List.getElem?_eq_some_iff.mp hu).1
      simpa using this
    refine wpAny_pyNext_enum_itemD (Draws.tuple (prog := X.prog) (w := X.w) (A := X.A.in1) (I.ok.hd hc) it a nai its.toArray) he ⟨hit, p⟩ hi hne (by simp [hne, Ne.symm nae]) fun v h' tk hv ho hst hT hsz hk => ?_
    have ev : v = u := by
      have z : its.toArray[i]? = some u := by simpa using hu
      rw [z] at hv; exact (Option.some.inj hv).symm
    subst ev
    refine ⟨_, rfl, wpAny_letOwnedTupleGo_enum (s := { s with heap := h', toks := tk + 1 }) ho fun h'' he' sb => ?_⟩
    have hT2 : h''.get? s.heap.objs.size = some { cls := .type "tuple", data := .seq #[.int i tk, v] } := (sb.2 _ (Nat.ne_of_gt hel)).trans hT
    have new : ObjOk X.prog X.w (upd H s.heap.objs.size (.tup [.int (i : Nat), x])) h'' s.heap.objs.size (.tup [.int (i : Nat), x]) :=
      ⟨by show 2 ≤ sizeLine; decide, [.int i tk, v], .cons ⟨_, rfl⟩ (.cons ru .nil), ⟨_, hT2, rfl, _, rfl⟩⟩
    have I1 : Inv X pins σ (upd H s.heap.objs.size (.tup [.int (i : Nat), x])) { s with heap := h'', toks := tk + 1 } :=
      I.turnedNew (ch := [e, it]) (fun b ob hb q => (sb.2 b (fun z => hb (by simp [z]))).trans (hk b ob (fun z => hb (by simp [z])) (fun z => hb (by simp [z])) q)) hf (Nat.le_refl _) new
    refine ⟨.ref s.heap.objs.size, _, I1, rfl, ⟨_, x, rfl, I.hok.fresh (Nat.le_refl _), rfl, fun ys hy => by rw [I.tuple_inj hy hq]; exact hx⟩, ⟨⟨v, ?_⟩, hst.1.at fun o q => (sb.2 it (Ne.symm hne)).trans q, hne⟩, fun b hb => ?_⟩
    · have e1 : ((i + 1 : Nat) : Int) = (i : Int) + 1 := by omega
      rw [e1]; exact he'
    · have hb' : b < s.heap.objs.size := by
        have e' : b = e ∨ b = it := by simpa using hb
        rcases e' with z | z
        · rw [z]; exact hel
        · rw [z]; exact hil
      rw [upd_ne (Nat.ne_of_lt hb')]
      exact (hf b hb).1
  done := by
    intro X hP hw hK hc i pins s σ H E I hf st hg
    subst hP hw hK
    obtain ⟨⟨old, he⟩, hit, hne⟩ := st
    obtain ⟨xs, hq, hx⟩ := hg
    obtain ⟨its, rv, p, hz⟩ := I.tuple hq
    obtain ⟨f0, f1, f2, f3, f4, f5⟩ := hf it (by simp)
    have hl := rv.length
    have hT : s.TypeIs (.ref e) "enumerate" := ⟨_, he, rfl⟩
    unfold pyNext
    refine wpAny_bind (wpAny_attempt (wpAny_callSpecial?_slot (name := Str.ofString "__next__") hT F.slot_enumerate_next
      (wpAny_call_entry F.slot_enumerate_next hT F.entry_enumerate_next ?_ (F.args_enumerate_next_1 _))))
    show wpAny _ _ (field (.ref e) 2 >>= _) _ _ _
    refine wpAny_bind (wpAny_field he rfl (x := .ref it) rfl ?_)
    refine wpAny_bind (wpAny_nextOf_tuple_end (I.ok.hd hc) hit p (by simp; omega) fun h' x' he' hx' => ?_)
    obtain ⟨o, ho, hc'⟩ := hx'
    refine wpAny_bind (wpAny_isInstance (T := "StopIteration") (b := true) ⟨o, ho, hc'⟩ isSubtype_stop ?_)
    exact wpAny_pure ⟨rfl, I.turned (t' := s.toks) (fun b o hb q => he' b o hb q) f0 f1 f3 f4 f5⟩
  self := by
    intro A i s Q E st h
    obtain ⟨⟨old, he⟩, _⟩ := st
    exact wpAny_pyIter_enum he h
def iEnumT (K : PySem.W.Frag) (ta : TA) : TI := fun σ H R => ta σ H fun vs H1 => ∃ a xs, vs = [.ref a] ∧ SqT K H1 a xs ∧ R (IteT K a) H1
theorem pi_enumT {X : Cx} {e : Expr} {ta : TA} {p pos tpos : Pos} {elts : List Expr} {kk : Nat} (hg : Gl X "enumerate") (hm : X.mg "enumerate" = none) (ha : PA X [e] ta) (hs : starEach [e] X.env = [(false, eval e X.env)] := by rfl) :
    PI X (.Tuple elts kk tpos) (.Call (.Name "enumerate" p) [e] [] pos) (iEnumT X.K ta) := by
  refine ⟨fun pins s σ H R I h => ?_⟩
  refine Call_ (ld_blt I hg hm boot_enumerate (PyProof.Rows.callWith_type1 (thn (ha.run pos pins s σ H _ I h) fun us s1 ⟨vs, H1, I1, r1, q1⟩ => ?_) hs rfl))
  obtain ⟨a, xs, ex, hq, q⟩ := q1
  subst ex
  cases r1 with
  | cons r rr =>
    cases rr
    cases r
    obtain ⟨its, rv, p', hz⟩ := I1.tuple hq
    have hal : a < s1.heap.objs.size := p'.lt
    refine ga_enumerate_tuple p' fun h' he hit hsz hk => wpAny_pyIter_enum he ?_
    have I2 : Inv X pins σ H1 { s1 with heap := h' } := I1.kept (t' := s1.toks) hk
    refine ⟨s1.heap.objs.size + 1, [s1.heap.objs.size + 1, s1.heap.objs.size], _, _, H1, rfl, I2, turn_enumT a (s1.heap.objs.size + 1) s1.heap.objs.size (Nat.ne_of_lt hal) (Nat.ne_of_lt (Nat.lt_succ_of_lt hal)), ⟨⟨.none, he⟩, hit, Nat.succ_ne_self _⟩, fun b hb => ?_, q⟩
    have e' : b = s1.heap.objs.size + 1 ∨ b = s1.heap.objs.size := by simpa using hb
    have hle : s1.heap.objs.size ≤ b := by
      rcases e' with z | z
      · rw [z]; exact Nat.le_add_right _ _
      · rw [z]; exact Nat.le_refl _
    exact I1.fpOk hle (I1.hok.fresh hle)
theorem walk_enumT {K : PySem.W.Frag} {a : Addr} {xs : List V} : Walk (IteT K a) xs.length (fun H => SqT K H a xs) (YPair (fun i => some (.int (i : Nat))) (fun i => xs[i]?)) := by
  refine ⟨fun i _ hi q => ⟨xs, xs[i], q, by simp [hi]⟩, fun _ q => ⟨xs, q, Nat.le_refl _⟩, fun i H v H' _ q y => ?_⟩
  obtain ⟨T, x, h1, h2, h3, h4⟩ := y
  exact ⟨T, .int (i : Nat), x, h1, h2, h3, rfl, h4 xs q⟩
end GA
/-! ## GC -/
namespace GA
open PySem L2
theorem Ts.of {H H' : Hp} (k : ∀ a u, H a = some u → (∀ xs, u ≠ .lst xs) → H' a = some u) : Ts H H' := fun a xs h => h.elim (fun h => .inl (k a _ h fun _ z => nomatch z)) fun ⟨ob, h⟩ => .inr ⟨ob, k a _ h fun _ z => nomatch z⟩
theorem Ts.updl {H : Hp} {D : Addr} {xs : List V} {u : HO} (h : H D = some (.lst xs)) : Ts H (upd H D u) := Ts.of fun a w e n => by
  rw [upd_ne (ne_of e h (n xs))]; exact e
theorem Ts.trans {H H1 H2 : Hp} (a : Ts H H1) (b : Ts H1 H2) : Ts H H2 := fun x xs h => b x xs (a x xs h)
section
variable {K : PySem.W.Frag} {J : It} {n : Nat} {Gd : Hp → Prop} {Y : Nat → Hp → V → Hp → Prop} {o : Option (Addr × Addr)} {H1 : Hp} {D : Addr} {g : TG} {tt : TT} {te : TE} {vs : List Nat} {σ : L2.St} {Qd : Hp → Prop}
/-- a comprehension: what it has made as data; Pv by the turn, the data, the heap -/
theorem lc_data (wk : Walk J n Gd Y) (hn : n ≤ 100000) (hD : H1 D = none) (hh : ∀ p, o = some p → Hand H1 p.1 p.2) (Pv : Nat → List PyData → Hp → Prop)
    (stab : ∀ i acc H xs l, Pv i acc H → H D = some (.lst xs) → Pv i acc (upd H D (.lst l)))
    (h0 : Pv 0 [] (upd H1 D (.lst [])))
    (hG : ∀ i acc H, G o H1 H → Pv i acc H → Gd H)
    (hs : ∀ i x acc H H', i < n → G o H1 H → Pv i acc H → Y i H x H' → ∀ (Qy : V → Hp → Prop) (Qn : Hp → Prop), (∀ y H4 e, G o H H4 → Dp K H4 y e → nl e = true → Pv (i + 1) (acc ++ [e]) H4 → Qy y H4) → (∀ H3, G o H H3 → Pv (i + 1) acc H3 → Qn H3) →
      g x (wipe σ vs) H' fun σ2 H2 => wipe σ2 vs = wipe σ vs ∧ tt σ2 H2 fun b H3 => if b = true then te σ2 H3 Qy else Qn H3)
    (hd : ∀ ds xs H', Pv n ds H' → G o H1 H' → H' D = some (.lst xs) → DpAll K H' xs ds → nls ds = true → Qd H') :
    ∃ W : Nat → Nat → Hp → Prop, (∃ m, W 0 m (upd H1 D (.lst []))) ∧ ∀ i m H, W i m H →
      (J.stop i H ∧ Qd H) ∨ (J.go i H ∧ ∃ Nx : Hp → Prop, (∀ H', Nx H' → ∃ m', m' < m ∧ W (i + 1) m' H') ∧ ∀ x H', J.yld i H x H' → g x (wipe σ vs) H' fun σ2 H2 => wipe σ2 vs = wipe σ vs ∧ tt σ2 H2 fun b H3 =>
        if b = true then te σ2 H3 fun y H4 => ∃ acc, H4 D = some (.lst acc) ∧ acc.length < sizeLine ∧ Nx (upd H4 D (.lst (acc ++ [y]))) else Nx H3) := by
  have offD : ∀ p, o = some p → D ≠ p.1 := fun p e => (hh p e).ne hD
  refine lc_it wk (fun i H => ∃ ds xs, G o H1 H ∧ Pv i ds H ∧ H D = some (.lst xs) ∧ DpAll K H xs ds ∧ nls ds = true ∧ xs.length ≤ i) ?_ ?_ ?_ ?_
  · exact ⟨[], [], (G.refl).mut hD hh, h0, upd_same, .nil, rfl, Nat.le_refl _⟩
  · rintro i H _ ⟨ds, xs, q1, q2, _⟩
    exact hG i ds H q1 q2
  · rintro i x H H' hi ⟨ds, xs, q1, q2, q3, q4, q5, q6⟩ y
    have keepD : ∀ {H4 : Hp}, G o H H4 → H4 D = some (.lst xs) := fun g4 => g4.keep D _ offD q3
    refine hs i x ds H H' hi q1 q2 y _ _ (fun v H4 e g4 he ne hp => ?_) fun H3 g3 hp => ⟨ds, xs, q1.trans g3, hp, keepD g3, dpAll_t g3.tups _ _ q5 q4, q5, by omega⟩
    have hD4 := keepD g4
    have t4 : Ts H4 (upd H4 D (.lst (xs ++ [v]))) := Ts.updl hD4
    refine ⟨xs, hD4, Nat.lt_of_le_of_lt (by omega : xs.length ≤ 100000) (by decide), ds ++ [e], xs ++ [v], (q1.trans g4).mut hD hh, stab _ _ _ _ _ hp hD4, upd_same, ?_, ?_, ?_⟩
    · exact DpAll.app (dpAll_t (g4.tups.trans t4) _ _ q5 q4) (DpAll.one (dp_t t4 e v ne he))
    · rw [nls_iff] at q5 ⊢
      intro d hd
      rcases List.mem_append.mp hd with z | z
      · exact q5 d z
      · have : d = e := by simpa using z
        rw [this]; exact ne
    · rw [List.length_append, List.length_singleton]; omega
  · rintro H ⟨ds, xs, q1, q2, q3, q4, q5, _⟩
    exact hd ds xs H q2 q1 q3 q4 q5
/-- one whose items are told by their places -/
theorem lc_pure (wk : Walk J n Gd Y) (hn : n ≤ 100000) (hD : H1 D = none) (hh : ∀ p, o = some p → Hand H1 p.1 p.2) (f : Nat → Option PyData)
    (hG : ∀ H, G o H1 H → Gd H)
    (hs : ∀ i x H H', i < n → G o H1 H → Y i H x H' → ∀ (Qy : V → Hp → Prop) (Qn : Hp → Prop), (∀ y H4 e, G o H H4 → Dp K H4 y e → nl e = true → f i = some e → Qy y H4) → (∀ H3, G o H H3 → f i = none → Qn H3) →
      g x (wipe σ vs) H' fun σ2 H2 => wipe σ2 vs = wipe σ vs ∧ tt σ2 H2 fun b H3 => if b = true then te σ2 H3 Qy else Qn H3)
    (hd : ∀ xs H', G o H1 H' → H' D = some (.lst xs) → DpAll K H' xs ((List.range n).filterMap f) → nls ((List.range n).filterMap f) = true → Qd H') :
    ∃ W : Nat → Nat → Hp → Prop, (∃ m, W 0 m (upd H1 D (.lst []))) ∧ ∀ i m H, W i m H →
      (J.stop i H ∧ Qd H) ∨ (J.go i H ∧ ∃ Nx : Hp → Prop, (∀ H', Nx H' → ∃ m', m' < m ∧ W (i + 1) m' H') ∧ ∀ x H', J.yld i H x H' → g x (wipe σ vs) H' fun σ2 H2 => wipe σ2 vs = wipe σ vs ∧ tt σ2 H2 fun b H3 =>
        if b = true then te σ2 H3 fun y H4 => ∃ acc, H4 D = some (.lst acc) ∧ acc.length < sizeLine ∧ Nx (upd H4 D (.lst (acc ++ [y]))) else Nx H3) := by
  refine lc_data (K := K) wk hn hD hh (fun i acc _ => acc = (List.range i).filterMap f) (fun _ _ _ _ _ h _ => h) rfl (fun _ _ H q _ => hG H q) ?_ ?_
  · rintro i x acc H H' hi q1 rfl y Qy Qn ky kn
    refine hs i x H H' hi q1 y Qy Qn (fun y H4 e g4 he ne hf => ky y H4 e g4 he ne ?_) fun H3 g3 hf => kn H3 g3 ?_
    · rw [List.range_succ, List.filterMap_append]; simp [hf]
    · rw [List.range_succ, List.filterMap_append]; simp [hf]
  · rintro ds xs H' rfl q1 q2 q3 q4
    exact hd xs H' q1 q2 q3 q4
end
theorem G.at_hd {H0 H' : Hp} {hd c : Addr} (x : Hand H0 hd c) (E : ∀ a, a ≠ hd → H' a = H0 a) {i b m k : Int} (h : H' hd = some (.lst [.ref c, .int i, .int b, .int m, .int k])) (hi : 0 ≤ i) : G (some (hd, c)) H0 H' ∧ Hand H' hd c := by
  obtain ⟨n, ⟨ns, h1⟩, i0, b0, m0, k0, h2, h3⟩ := x
  have hh : Hand H' hd c := ⟨n, ⟨ns, by rw [E c n]; exact h1⟩, i, b, m, k, h, hi⟩
  refine ⟨⟨fun a u z e => ?_, fun a xs e => ?_, fun p e _ => ?_⟩, hh⟩
  · rw [E a (z _ rfl)]; exact e
  · have na : a ≠ hd := by
      rcases e with e | ⟨ob, e⟩
      · exact ne_of e h2 (by intro z; cases z)
      · exact ne_of e h2 (by intro z; cases z)
    rcases e with e | ⟨ob, e⟩
    · exact .inl (by rw [E a na]; exact e)
    · exact .inr ⟨ob, by rw [E a na]; exact e⟩
  · cases e; exact hh
theorem mem_cutV {xs : List V} {lo hi : Option Int} {v : V} (h : v ∈ cutV xs lo hi) : v ∈ xs := by
  unfold cutV at h
  exact List.mem_of_mem_drop (List.mem_of_mem_take h)
theorem ints_of {xs : List V} (h : ∀ v ∈ xs, ∃ n : Int, v = .int n) : ∃ ns : List Int, xs = ns.map V.int := by
  induction xs with
  | nil => exact ⟨[], rfl⟩
  | cons x xs ih =>
    obtain ⟨n, rfl⟩ := h x List.mem_cons_self
    obtain ⟨ns, rfl⟩ := ih fun v hv => h v (List.mem_cons_of_mem _ hv)
    exact ⟨n :: ns, rfl⟩
/-! new objects, told by what they leave -/
theorem PE.weak {X : Cx} {e : Expr} {t t' : TE} (h : PE X e t) (w : ∀ σ H Q, t' σ H Q → t σ H Q) : PE X e t' := ⟨fun pins s σ H Q I q => h.run pins s σ H Q I (w σ H Q q)⟩
theorem CallR.weak {X : Cx} {f : Value} {r r' : List V → Hp → VK → Prop} (h : CallR X f r) (w : ∀ xs H Q, r' xs H Q → r xs H Q) : CallR X f r' := fun pins s σ H xs us Q I rv q => h pins s σ H xs us Q I rv (w xs H Q q)
theorem OpR.weak {X : Cx} {f : Value → Value → Sem Value} {r r' : R2} (h : OpR X f r) (w : ∀ x y H Q, r' x y H Q → r x y H Q) : OpR X f r' := fun pins s σ H x y v u Q I r1 r2 q => h pins s σ H x y v u Q I r1 r2 (w x y H Q q)
theorem SlR.weak {X : Cx} {r r' : V → Option Int → Option Int → Hp → VK → Prop} (h : SlR X r) (w : ∀ x l u H Q, r' x l u H Q → r x l u H Q) : SlR X r' := fun pins s σ H x v vl vu lo hi sl Q I r1 hs pl pu q => h pins s σ H x v vl vu lo hi sl Q I r1 hs pl pu (w x lo hi H Q q)
/-- for each new object u at p: F p H2 -/
def New (H : Hp) (u : HO) (F : Addr → Hp → Prop) : Prop := ∀ p H2, H p = none → (∀ o, G o H H2) → H2 p = some u → F p H2
theorem New.go {H : Hp} {u : HO} {F : Addr → Hp → Prop} (h : New H u F) {p : Addr} (hp : H p = none) : F p (upd H p u) := h p _ hp (fun _ => G.alloc hp) upd_same
def tTupN (t : TA) : TE := fun σ H Q => t σ H fun xs H1 => xs.length ≤ sizeLine ∧ New H1 (.tup xs) fun p H2 => Q (.ref p) H2
def tLstN (t : TA) : TE := fun σ H Q => t σ H fun xs H1 => xs.length ≤ sizeLine ∧ New H1 (.lst xs) fun p H2 => Q (.ref p) H2
section
variable {X : Cx} {es : List Expr} {t : TA} {pos : Pos}
theorem pe_tupN {x1} (h : PA X es t) : PE X (.Tuple es x1 pos) (tTupN t) := by
  have h' : PA X es (fun σ H QA => t σ H QA) := h
  refine ⟨fun pins s σ H Q I q => ?_⟩
  have hm : PA X es (fun σ H QA => t σ H (fun xs H1 => xs.length ≤ sizeLine ∧ New H1 (.tup xs) fun p H2 => Q (.ref p) H2) ∧ ∀ xs H1, (xs.length ≤ sizeLine ∧ New H1 (.tup xs) fun p H2 => Q (.ref p) H2) → QA xs H1) :=
    ⟨fun pos pins s σ H QA I q => wpAny_mono (h.run pos pins s σ H _ I q.1) (fun us s1 ⟨vs, H1, I1, r, z⟩ => ⟨vs, H1, I1, r, q.2 vs H1 z⟩) fun _ _ z => z⟩
  exact (pe_tup hm).run pins s σ H Q I ⟨q, fun xs H1 z => ⟨z.1, fun p hp => z.2.go hp⟩⟩
theorem pe_lstN (h : PA X es t) : PE X (.List es pos) (tLstN t) := by
  refine ⟨fun pins s σ H Q I q => ?_⟩
  have hm : PA X es (fun σ H QA => t σ H (fun xs H1 => xs.length ≤ sizeLine ∧ New H1 (.lst xs) fun p H2 => Q (.ref p) H2) ∧ ∀ xs H1, (xs.length ≤ sizeLine ∧ New H1 (.lst xs) fun p H2 => Q (.ref p) H2) → QA xs H1) :=
    ⟨fun pos pins s σ H QA I q => wpAny_mono (h.run pos pins s σ H _ I q.1) (fun us s1 ⟨vs, H1, I1, r, z⟩ => ⟨vs, H1, I1, r, q.2 vs H1 z⟩) fun _ _ z => z⟩
  exact (pe_lst hm).run pins s σ H Q I ⟨q, fun xs H1 z => ⟨z.1, fun p hp => z.2.go hp⟩⟩
end
/-- tuple(a list): a new tuple; tuple(a tuple): itself -/
def rTupleN (K : PySem.W.Frag) : List V → Hp → VK → Prop := fun xs H Q => ∃ p ys, xs = [.ref p] ∧ ((SqL K H p ys ∧ New H (.tup ys) fun l H2 => Q (.ref l) H2) ∨ (SqT K H p ys ∧ Q (.ref p) H))
theorem call_tupleN {X : Cx} : CallR X (.type "tuple") (rTupleN X.K) := CallR.weak call_tuple_of fun xs H Q h => by
  obtain ⟨p, ys, e, h | h⟩ := h
  · exact ⟨p, ys, e, .inl ⟨h.1, fun l hl => h.2.go hl⟩⟩
  · exact ⟨p, ys, e, .inr h⟩
def rListN (K : PySem.W.Frag) : List V → Hp → VK → Prop := fun xs H Q => ∃ p ys, xs = [.ref p] ∧ (SqL K H p ys ∨ SqT K H p ys) ∧ New H (.lst ys) fun l H2 => Q (.ref l) H2
theorem call_listN {X : Cx} : CallR X (.type "list") (rListN X.K) := CallR.weak call_list_of fun xs H Q h => by
  obtain ⟨p, ys, e, h, q⟩ := h
  exact ⟨p, ys, e, h, fun l hl => q.go hl⟩
theorem w_tupN {σ : L2.St} {H : Hp} {Q : VK} {tr : TA} (q : tr σ H fun xs H1 => xs.length ≤ sizeLine ∧ New H1 (.tup xs) fun p H2 => Q (.ref p) H2) : tTupN tr σ H Q := q
theorem w_lstN {σ : L2.St} {H : Hp} {Q : VK} {tr : TA} (q : tr σ H fun xs H1 => xs.length ≤ sizeLine ∧ New H1 (.lst xs) fun p H2 => Q (.ref p) H2) : tLstN tr σ H Q := q
/-- for up to so many items -/
theorem sz {n : Nat} (h : n ≤ 100000) : n ≤ sizeLine := Nat.le_trans h (by decide)
theorem filterMap_range_map {α β : Type} (l : List α) (f : α → β) : (List.range l.length).filterMap (fun i => (l[i]?).map f) = l.map f := by
  induction l with
  | nil => rfl
  | cons a l ih =>
    rw [List.length_cons, List.range_succ_eq_map, List.filterMap_cons, List.filterMap_map]
    simp only [List.getElem?_cons_zero, Option.map_some, List.map_cons]
    congr 1
theorem filterMap_range_fm {α β : Type} (l : List α) (f : α → Option β) : (List.range l.length).filterMap (fun i => (l[i]?).bind f) = l.filterMap f := by
  induction l with
  | nil => rfl
  | cons a l ih =>
    rw [List.length_cons, List.range_succ_eq_map, List.filterMap_cons, List.filterMap_map, List.filterMap_cons]
    simp only [List.getElem?_cons_zero, Option.bind_some]
    cases f a with
    | none => exact ih
    | some b => simp only []; congr 1
section
variable {K : PySem.W.Frag} {σ : L2.St} {H : Hp} {Q : VK} {D : Ends}
theorem w_lc {wi : TI} {g : TG} {tt : TT} {te : TE} {vs : List Nat} (q : wi σ H fun J H1 => ∀ D, H1 D = none → ∃ W : Nat → Nat → Hp → Prop, (∃ m, W 0 m (upd H1 D (.lst []))) ∧ ∀ i m H, W i m H →
  (J.stop i H ∧ Q (.ref D) H) ∨ (J.go i H ∧ ∃ Nx : Hp → Prop, (∀ H', Nx H' → ∃ m', m' < m ∧ W (i + 1) m' H') ∧ ∀ x H', J.yld i H x H' → g x (wipe σ vs) H' fun σ2 H2 => wipe σ2 vs = wipe σ vs ∧ tt σ2 H2 fun b H3 =>
    if b = true then te σ2 H3 fun y H4 => ∃ acc, H4 D = some (.lst acc) ∧ acc.length < sizeLine ∧ Nx (upd H4 D (.lst (acc ++ [y]))) else Nx H3)) : tLc wi g tt te vs σ H Q := q
theorem w_nt {A B : Prop} (q : B) : if (!true) = true then A else B := q
theorem w_nf {A B : Prop} (q : A) : if (!false) = true then A else B := q
theorem w_iteE {b : Bool} {A B : Prop} (e : b = true) (q : A) : if b = true then A else B := by rw [if_pos e]; exact q
theorem w_iteN {b : Bool} {A B : Prop} (e : b = false) (q : B) : if b = true then A else B := by rw [e]; exact q
theorem w_isN {te : TE} (q : te σ H fun x H1 => Q (.bl (decide (x = .non))) H1) : tIsN te σ H Q := q
theorem w_notN {te : TE} (q : te σ H fun x H1 => Q (.bl (!decide (x = .non))) H1) : tNotN te σ H Q := q
theorem w_seqM {ts tu : TS} (M : L2.St → Hp → Prop) (h1 : ∀ N : L2.St → Hp → Prop, (∀ σ' H', M σ' H' → N σ' H') → ts { D with nx := N } σ H) (h2 : ∀ σ' H', M σ' H' → tu D σ' H') : tSeq ts tu D σ H := h1 _ h2
theorem w_make {C : Addr} {sp : Sp} {E : XK} {tr : TA} (q : tr σ H fun vs H1 => ∀ x dx, H1 x = none → H1 dx = none → dx ≠ x → sp (.ref x :: (vs ++ [])) (upd (upd H1 dx (.own x)) x (.ins C dx [])) (fun v H2 => v = .non ∧ Q (.ref x) H2) E) : tMake C sp [] E tr σ H Q := q
theorem w_yes {QB : Bool → Hp → Prop} (q : QB true H) : tYes σ H QB := q
theorem w_for {wi : TI} {g : TG} {tb : TS} (q : wi σ H fun J H1 => ∃ W : Nat → Nat → L2.St → Hp → Prop, (∃ m, W 0 m σ H1) ∧ ∀ i m σ H, W i m σ H →
  (J.stop i H ∧ D.nx σ H) ∨ (J.go i H ∧ ∃ N : L2.St → Hp → Prop, (∀ σ' H', N σ' H' → ∃ m', m' < m ∧ W (i + 1) m' σ' H') ∧ ∀ x H', J.yld i H x H' → g x σ H' fun σ2 H2 => tb { D with nx := N, ct := N, bk := D.nx } σ2 H2)) : tFor wi g tb D σ H := q
variable {R : It → Hp → Prop} {ta : TA} {te : TE}
theorem w_rng1 (q : ta σ H fun vs H1 => ∃ j : Int, vs = [.int j] ∧ -(2 ^ 62) ≤ j ∧ j < 2 ^ 62 ∧ R (Itr 0 j.toNat) H1) : iRng1 ta σ H R := q
theorem w_rng2 (q : ta σ H fun vs H1 => ∃ i j : Int, vs = [.int i, .int j] ∧ (-(2 ^ 62) ≤ i ∧ i < 2 ^ 62 ∧ -(2 ^ 62) ≤ j ∧ j < 2 ^ 62) ∧ R (Itr i (j - i).toNat) H1) : iRng2 ta σ H R := q
theorem w_itup (q : te σ H fun x H1 => ∃ a, x = .ref a ∧ (∃ xs, SqT K H1 a xs) ∧ R (Itt K a) H1) : iTup K te σ H R := q
theorem w_ilist (q : te σ H fun x H1 => ∃ a, x = .ref a ∧ (∃ xs, SqL K H1 a xs) ∧ R (Itl K a) H1) : iList K te σ H R := q
theorem w_ienum (q : ta σ H fun vs H1 => ∃ a xs, vs = [.ref a] ∧ SqT K H1 a xs ∧ R (IteT K a) H1) : iEnumT K ta σ H R := q
theorem w_izip (q : ta σ H fun vs H1 => ∃ a b xs ys, vs = [.ref a, .ref b] ∧ ((SqL K H1 a xs ∧ SqL K H1 b ys ∧ R (Itz K a b) H1) ∨ (SqT K H1 a xs ∧ SqT K H1 b ys ∧ R (RZ.ItzT K a b) H1))) : RZ.iZipA K ta σ H R := q
theorem w_BM {T : String} {r : V → List V → Hp → VK → Prop} {to : TE} (q : to σ H fun x H1 => tyV K T x H1 ∧ ta σ H1 fun xs H2 => r x xs H2 Q) : tBM K T r to ta σ H Q := q
theorem w_BM0 {T : String} {r : V → List V → Hp → VK → Prop} {to : TE} (q : to σ H fun x H1 => tyV K T x H1 ∧ r x [] H1 Q) : tBM0 K T r to σ H Q := q
theorem i_BM {l : Addr} {xs : List V} {F : Prop} (h : H l = some (.lst xs)) (q : F) : tyV K "list" (.ref l) H ∧ F := ⟨.inl ⟨rfl, _, SqL.of h⟩, q⟩
theorem r_app {l : Addr} {xs : List V} {y : V} (h : H l = some (.lst xs)) (hz : xs.length ≤ 90000) (q : Q .non (upd H l (.lst (xs ++ [y])))) : rAppend (.ref l) [y] H Q := ⟨l, xs, y, rfl, rfl, h, Nat.lt_of_le_of_lt hz (by decide), q⟩
theorem i_rng1 {F : Int → Prop} {j : Int} (h1 : 0 ≤ j) (h2 : j ≤ 100000) (q : F j) : ∃ k : Int, [V.int j] = [.int k] ∧ -(2 ^ 62) ≤ k ∧ k < 2 ^ 62 ∧ F k := ⟨j, rfl, by omega, by omega, q⟩
theorem i_rng2 {F : Int → Int → Prop} {i j : Int} (h : -100000 ≤ i ∧ i ≤ 100000 ∧ -100000 ≤ j ∧ j ≤ 100000) (q : F i j) : ∃ k l : Int, [V.int i, V.int j] = [.int k, .int l] ∧ (-(2 ^ 62) ≤ k ∧ k < 2 ^ 62 ∧ -(2 ^ 62) ≤ l ∧ l < 2 ^ 62) ∧ F k l := ⟨i, j, rfl, by omega, q⟩
theorem i_tup {F : Addr → Prop} {a : Addr} {xs : List V} (h : SqT K H a xs) (q : F a) : ∃ b, V.ref a = .ref b ∧ (∃ xs, SqT K H b xs) ∧ F b := ⟨a, rfl, ⟨xs, h⟩, q⟩
theorem i_list {F : Addr → Prop} {a : Addr} {xs : List V} (h : SqL K H a xs) (q : F a) : ∃ b, V.ref a = .ref b ∧ (∃ xs, SqL K H b xs) ∧ F b := ⟨a, rfl, ⟨xs, h⟩, q⟩
theorem i_enum {F : Addr → Prop} {a : Addr} {xs : List V} (h : SqT K H a xs) (q : F a) : ∃ (b : Addr) (ys : List V), [V.ref a] = [.ref b] ∧ SqT K H b ys ∧ F b := ⟨a, xs, rfl, h, q⟩
end
end GA
/-! ## GD -/
namespace GA
open PySem L2
/-! ### data within data -/
def rInDT (K : PySem.W.Frag) : R2 := fun x y H Q => ∃ d ds, Dp K H x d ∧ Dp K H y (.tuple ds) ∧ SeqAt.shaped d = true ∧ SeqAt.shaped (.tuple ds) = true ∧ Q (.bl (ds.any fun z => PyData.eqv z d)) H
theorem op_inDT {X : Cx} (hu : X.A.units + 65 < cLine) : OpR X (compareOp .In) (rInDT X.K) := by
  intro pins s σ H x y v u Q I rx ry h
  obtain ⟨d, ds, hd, he, sd, se, q⟩ := h
  obtain ⟨as, r1⟩ := Dp.reads I d x v hd rx
  obtain ⟨bs, r2⟩ := Dp.reads I (.tuple ds) y u he ry
  exact SeqAt.in_tuple_reads r2 r1 (SeqAt.canLay_of_shaped se) (SeqAt.canLay_of_shaped sd) (PyProof.Rows.room_in_shaped sd hu) ⟨.bl _, H, I, rfl, q⟩
theorem u65 {k : Nat} {A : Around} (hr : Room k A) : A.units + 65 < cLine := by
  have := hr.un
  omega
theorem canAll {ds : List PyData} (h : ∀ d ∈ ds, d.canLay0 = true) : PyData.canLayAll0 ds = true := by
  induction ds with
  | nil => rfl
  | cons d ds ih => rw [PyData.canLayAll0, h d List.mem_cons_self, ih fun e he => h e (List.mem_cons_of_mem _ he)]; rfl
theorem depAll {n : Nat} {ds : List PyData} (h : ∀ d ∈ ds, d.depth ≤ n) : PyData.depthAll ds ≤ n := by
  induction ds with
  | nil => rw [PyData.depthAll]; exact Nat.zero_le _
  | cons d ds ih =>
    rw [PyData.depthAll]
    have h1 := h d List.mem_cons_self
    have h2 := ih fun e he => h e (List.mem_cons_of_mem _ he)
    omega
theorem sh_of {d : PyData} (h1 : d.canLay0 = true) (h2 : d.depth ≤ 64) : SeqAt.shaped d = true := by
  unfold SeqAt.shaped
  rw [h1, decide_eq_true h2]; rfl
theorem dep_tup {n : Nat} {ds : List PyData} (h : ∀ d ∈ ds, d.depth ≤ n) : (PyData.tuple ds).depth ≤ n + 1 := by
  rw [PyData.depth]
  have := depAll h
  omega
theorem can_tup {ds : List PyData} (h : ∀ d ∈ ds, d.canLay0 = true) : (PyData.tuple ds).canLay0 = true := by
  rw [PyData.canLay0]; exact canAll h
theorem can_int {n : Int} : (PyData.int n).canLay0 = true := by simp [PyData.canLay0]
theorem dep_int {n : Int} : (PyData.int n).depth = 0 := by simp [PyData.depth]
theorem can_dI (ns : List Int) : (dI ns).canLay0 = true := can_tup fun d h => by
  obtain ⟨n, _, rfl⟩ := List.mem_map.mp h
  exact can_int
theorem dep_dI (ns : List Int) : (dI ns).depth ≤ 1 := dep_tup (n := 0) fun d h => by
  obtain ⟨n, _, rfl⟩ := List.mem_map.mp h
  rw [dep_int]; exact Nat.le_refl _
theorem can_dP (w : Int × Int) : (dP w).canLay0 = true := can_dI [w.1, w.2]
theorem dep_dP (w : Int × Int) : (dP w).depth ≤ 1 := dep_dI [w.1, w.2]
theorem can_dW (ws : List (Int × Int)) : (dW ws).canLay0 = true := can_tup fun d h => by
  obtain ⟨n, _, rfl⟩ := List.mem_map.mp h
  exact can_dP n
theorem dep_dW (ws : List (Int × Int)) : (dW ws).depth ≤ 2 := dep_tup (n := 1) fun d h => by
  obtain ⟨n, _, rfl⟩ := List.mem_map.mp h
  exact dep_dP n
theorem sh_dI (ns : List Int) : SeqAt.shaped (dI ns) = true := sh_of (can_dI ns) (Nat.le_trans (dep_dI ns) (by decide))
theorem sh_dP (w : Int × Int) : SeqAt.shaped (dP w) = true := sh_of (can_dP w) (Nat.le_trans (dep_dP w) (by decide))
theorem sh_dW (ws : List (Int × Int)) : SeqAt.shaped (dW ws) = true := sh_of (can_dW ws) (Nat.le_trans (dep_dW ws) (by decide))
theorem eqv_int {i j : Int} : PyData.eqv (.int i) (.int j) = decide (i = j) := by
  rw [PyData.eqv]; exact Bool.beq_eq_decide_eq i j
theorem eqvAll_map {α : Type} [DecidableEq α] {f : α → PyData} (h : ∀ x y, PyData.eqv (f x) (f y) = decide (x = y)) : ∀ (xs ys : List α), PyData.eqvAll (xs.map f) (ys.map f) = decide (xs = ys)
  | [], [] => by simp [PyData.eqvAll]
  | [], y :: ys => by simp [PyData.eqvAll]
  | x :: xs, [] => by simp [PyData.eqvAll]
  | x :: xs, y :: ys => by
    rw [List.map_cons, List.map_cons, PyData.eqvAll, h, eqvAll_map h xs ys]
    simp only [List.cons.injEq]
    by_cases h1 : x = y <;> by_cases h2 : xs = ys <;> simp [h1, h2]
theorem eqv_dI (ns ms : List Int) : PyData.eqv (dI ns) (dI ms) = decide (ns = ms) := by
  rw [PyData.eqv]; exact eqvAll_map (fun _ _ => eqv_int) ns ms
theorem eqv_dP (u v : Int × Int) : PyData.eqv (dP u) (dP v) = decide (u = v) := by
  have := eqv_dI [u.1, u.2] [v.1, v.2]
  have e : decide (([u.1, u.2] : List Int) = [v.1, v.2]) = decide (u = v) := by
    rw [decide_eq_decide]
    constructor
    · intro h
      injection h with h1 h2
      injection h2 with h2 _
      exact Prod.ext h1 h2
    · intro h; rw [h]
  rw [← e]; exact this
theorem eqv_dW (us ws : List (Int × Int)) : PyData.eqv (dW us) (dW ws) = decide (us = ws) := by
  rw [PyData.eqv]; exact eqvAll_map eqv_dP us ws
theorem any_dP (ws : List (Int × Int)) (u : Int × Int) : ((ws.map dP).any fun z => PyData.eqv z (dP u)) = decide (u ∈ ws) := by
  rw [List.any_map]
  have : (fun z => PyData.eqv z (dP u)) ∘ dP = fun z => decide (z = u) := by
    funext z; exact eqv_dP z u
  rw [this]
  induction ws with
  | nil => simp
  | cons w ws ih =>
    rw [List.any_cons, ih]
    by_cases h : w = u
    · simp [h]
    · have h' : ¬ u = w := fun e => h e.symm
      simp [h, h']
/-! the rules with the written part told: for a comprehension's block -/
section
variable {X : Cx}
theorem k_ix_tup (K : PySem.W.Frag) (hK : X.K = K := by rfl) : IxR X (rIxT K) := by subst hK; exact ix_tup
theorem k_ix_list (K : PySem.W.Frag) (hK : X.K = K := by rfl) : IxR X (rIxL K) := by subst hK; exact ix_list
theorem k_op_in_seq (K : PySem.W.Frag) (hK : X.K = K := by rfl) : OpR X (compareOp .In) (rIn K false) := by subst hK; exact op_in_seq
theorem k_op_notIn_seq (K : PySem.W.Frag) (hK : X.K = K := by rfl) : OpR X (compareOp .NotIn) (rIn K true) := by subst hK; exact op_notIn_seq
theorem k_call_isi (K : PySem.W.Frag) (hK : X.K = K := by rfl) : CallR X (.builtin "isinstance") (rIsi K) := by subst hK; exact call_isi
theorem k_call_isiT (K : PySem.W.Frag) (hK : X.K = K := by rfl) : CallR X (.builtin "isinstance") (rIsiT K) := by subst hK; exact call_isiT
theorem k_call_tupleN (K : PySem.W.Frag) (hK : X.K = K := by rfl) : CallR X (.type "tuple") (rTupleN K) := by subst hK; exact call_tupleN
theorem k_call_listN (K : PySem.W.Frag) (hK : X.K = K := by rfl) : CallR X (.type "list") (rListN K) := by subst hK; exact call_listN
theorem k_op_inDT (K : PySem.W.Frag) (hu : X.A.units + 65 < cLine) (hK : X.K = K := by rfl) : OpR X (compareOp .In) (rInDT K) := by subst hK; exact op_inDT hu
theorem k_op_eqD (K : PySem.W.Frag) (hu : X.A.units + 64 < cLine) (hK : X.K = K := by rfl) : OpR X (compareOp .Eq) (rEqD K) := by subst hK; exact op_eqD hu
theorem k_op_neD (K : PySem.W.Frag) (hu : X.A.units + 64 < cLine) (hK : X.K = K := by rfl) : OpR X (compareOp .NotEq) (rNeD K) := by subst hK; exact op_neD hu
theorem k_cr_all (K : PySem.W.Frag) (hc : X.calm = true) (hK : X.K = K := by rfl) : CallR X (.builtin "all") (rAll K) := by subst hK; exact cr_all hc
/-- len of a list or tuple -/
def rLenK (K : PySem.W.Frag) : List V → Hp → VK → Prop := fun xs H Q => ∃ p ys, xs = [.ref p] ∧ (SqL K H p ys ∨ SqT K H p ys) ∧ Q (.int ys.length) H
theorem k_call_len_seq (K : PySem.W.Frag) (hK : X.K = K := by rfl) : CallR X (.builtin "len") (rLenK K) := by subst hK; exact call_len_seq
theorem k_fld (K : PySem.W.Frag) {e : Expr} {f : Str} {pos : Pos} {ta : TE} (he : PE X e ta) (hb : attributeBase e f X.env (eval e X.env) = eval e X.env) (hK : X.K = K := by rfl) : PE X (.Attribute e f pos) (tFld K ta f) := by subst hK; exact pe_fld he hb
theorem k_pi_list (K : PySem.W.Frag) {tg l : Expr} {tl : TE} (hl : PE X l tl) (hK : X.K = K := by rfl) : PI X tg l (iList K tl) := by subst hK; exact pi_list hl
theorem k_pi_tup (K : PySem.W.Frag) {tg l : Expr} {tl : TE} (hl : PE X l tl) (hK : X.K = K := by rfl) : PI X tg l (iTup K tl) := by subst hK; exact pi_tup hl
end
end GA
/-! ## GE -/
namespace PyProof.Rows
open PySem
section
variable {prog : Program} {w : World} {A : Around} {E : Value → Shared → Prop} {s : Shared}
theorem ga_collect_tuple {l : Addr} {vs : List Value} {Q : List Value → Shared → Prop} (hl : s.heap.IsTuple l vs.toArray)
    (h : Q vs { s with heap := (s.heap.push (seqObj "list" #[] 0)).update s.heap.objs.size (Obj.mapSeq (· ++ vs.toArray)) }) (hsz : vs.length ≤ sizeLine := by size_fits) :
    wpAny (model prog w) A (collect (.ref l)) Q E s := by
  obtain ⟨o, ho, hc, n, hd⟩ := id hl
  unfold collect
  refine wpAny_bind (wpAny_runValue (codeAny_builtin entry_proto_collect' ?_))
  show wpAny _ _ (do again (.builtin "list.__iadd__" ⟨[← newList [], .ref l], []⟩)) _ _ s
  refine wpAny_bind (wpAny_newList (wpAny_pure ⟨Code.quiet_builtin _ (by decide +kernel), codeAny_builtin entry_list_iadd' ?_⟩))
  show wpAny _ _ (Builtin.List.listExtendWith (.ref s.heap.objs.size) (.ref l) (.ref s.heap.objs.size)) _ _ { s with heap := s.heap.push (seqObj "list" #[] 0) }
  unfold Builtin.List.listExtendWith
  have ho' : (s.heap.push (seqObj "list" #[] 0)).get? l = some o := Heap.get?_push_of_some _ ho
  refine wpAny_bind (wpAny_typeOf (T := "tuple") ⟨o, ho', hc⟩ ?_)
  have ht : (Value.type "tuple" == Value.type "tuple") = true := by rfl
  rw [if_pos (by rw [ht]; simp)]
  refine wpAny_bind (listItems_at ho' hd ?_)
  refine wpAny_bind (listItems_at (xs := #[]) (n := 0) (Heap.get?_push_size _ rfl) rfl ?_)
  rw [if_neg (by simp)]
  refine wpAny_bind (listUpdate_at (xs := #[]) (n := 0) (Heap.get?_push_size _ rfl) rfl ?_ (Nat.zero_le _) (by show (#[] ++ vs.toArray).size ≤ sizeLine + 1; simp only [Array.size_append, List.size_toArray, List.length_nil]; omega))
  refine wpAny_pure ?_
  show wpAny (model prog w) A (do
      let o ← load s.heap.objs.size
      match o.data with
      | .seq xs _ => pure xs.toList
      | _ => unsupported "internal:collect") Q E { s with heap := (s.heap.push (seqObj "list" #[] 0)).update s.heap.objs.size (Obj.mapSeq (· ++ vs.toArray)) }
  refine wpAny_bind (wpAny_load (get?_update_seq (Heap.get?_push_size _ rfl) _) ?_)
  show wpAny _ _ (pure ((#[] : Array Value) ++ vs.toArray).toList) Q E _
  rw [show ((#[] : Array Value) ++ vs.toArray).toList = vs by simp]
  exact wpAny_pure h
end
end PyProof.Rows
namespace SrtO
open PySem PyProof.Rows Srt
section
variable {prog : Program} {w : World} {A : Around} {E : Value → Shared → Prop} {s : Shared}
theorem ga_sorted_ordT {l : Addr} {vs : List Value} {ltv : Value → Value → Bool} {Q : Value → Shared → Prop} (O : Swo ltv) (hl : s.heap.IsTuple l vs.toArray) (hz : vs.length ≤ sizeLine)
    (hS : 2 ≤ vs.length → ∀ (h₁ : Heap) (a : Addr), h₁.get? a = some (seqObj "list" vs.toArray 0) → (∀ b o, s.heap.get? b = some o → b ≠ a ∧ h₁.get? b = some o) → SortableO prog w A.in1.in1 { s with heap := h₁ } a vs ltv)
    (h : ∀ out : List Value, Srtd ltv out → Stb ltv out vs → Q (.ref (s.heap.objs.size + 1)) { s with heap := sortedAll s.heap vs out.toArray }) :
    wpAny (model prog w) A (call (.builtin "sorted") [.ref l]) Q E s := by
  refine Calls.call_function_entry kind_sorted plain_sorted entry_sorted (args_sorted1 _) ?_
  unfold Builtin.«sorted»
  refine wpAny_bind (m := checkCount "sorted" 1 1 _) (wpAny_pure ?_)
  refine wpAny_bind (ga_collect_tuple hl ?_ hz)
  refine wpAny_bind (wpAny_newList ?_ hz)
  have hsz : ((s.heap.push (seqObj "list" #[] 0)).update s.heap.objs.size (Obj.mapSeq (· ++ vs.toArray))).objs.size = s.heap.objs.size + 1 := by
    rw [Heap.size_update, size_push']
  have hoL : (((s.heap.push (seqObj "list" #[] 0)).update s.heap.objs.size (Obj.mapSeq (· ++ vs.toArray))).push (seqObj "list" vs.toArray 0)).get? (s.heap.objs.size + 1) = some (seqObj "list" vs.toArray 0) := by
    rw [← hsz]; exact Heap.get?_push_size _ rfl
  have keep : ∀ b o, s.heap.get? b = some o → b ≠ s.heap.objs.size + 1 ∧ (((s.heap.push (seqObj "list" #[] 0)).update s.heap.objs.size (Obj.mapSeq (· ++ vs.toArray))).push (seqObj "list" vs.toArray 0)).get? b = some o := fun b o q => by
    have hlt : b < s.heap.objs.size := Heap.lt_size q
    refine ⟨Nat.ne_of_lt (Nat.lt_succ_of_lt hlt), Heap.get?_push_of_some _ ?_⟩
    rw [Heap.get?_update_ne _ _ _ _ (Nat.ne_of_lt hlt)]
    exact Heap.get?_push_of_some _ q
  show wpAny _ _ _ _ _ { s with heap := ((s.heap.push (seqObj "list" #[] 0)).update s.heap.objs.size (Obj.mapSeq (· ++ vs.toArray))).push (seqObj "list" vs.toArray 0) }
  rw [hsz]
  refine wpAny_bind (wpAny_holding (wpAny_call_entry slot_list_sort ⟨_, hoL, rfl⟩ entry_list_sort (list_sort_ord O hoL hz (fun h2 => hS h2 _ _ hoL keep) fun out hs hb => ⟨_, rfl, ?_⟩) (args_list_sort _)))
  exact wpAny_pure ⟨_, rfl, h out hs hb⟩
end
end SrtO
namespace GA
open PySem PySem.Spec PyProof.Rows L2
/-- sorted(t), t a tuple of ints -/
def rSortedIT (K : PySem.W.Frag) : List V → Hp → VK → Prop := fun vs H Q => ∃ (a : Addr) (ns : List Int), vs = [V.ref a] ∧ SqT K H a (ns.map V.int) ∧
  ∀ (ns' : List Int), ns'.Perm ns → ns'.Pairwise (· ≤ ·) → New H (.lst (ns'.map V.int)) fun p H2 => Q (.ref p) H2
theorem cr_sortedIT {X : Cx} : CallR X (.builtin "sorted") (rSortedIT X.K) := by
  intro pins s σ H vs us Q I r h
  obtain ⟨a, ns, rfl, hs, q⟩ := h
  obtain ⟨its, rv, hl, hz⟩ := I.tuple hs
  rw [Vals.ref1 r]
  have hi := rv.ints
  refine SrtO.ga_sorted_ordT SrtO.swo_int hl (by rw [← rv.length]; exact hz) (fun h2 h₁ a' _ _ => SrtO.ints_sortable hi h2) fun out h1 h2 => ?_
  obtain ⟨k1, k2, k3⟩ := SrtO.ints_out hi h1 h2
  obtain ⟨ep, he'⟩ := PyProof.Rows.sortedAll_at s.heap its out.toArray
  have hlen : ((out.map SrtO.iv).map V.int).length ≤ sizeLine := by
    rw [List.length_map, k2.length_eq]
    rw [List.length_map] at hz
    exact hz
  exact ⟨.ref _, upd H (s.heap.objs.size + 1) (.lst ((out.map SrtO.iv).map V.int)), I.laid (t' := s.toks) (fun _ _ => PyProof.Rows.sortedAll_old) (Nat.le_succ _) ⟨hlen, out, ep, vals_of_ints k1, he'⟩, rfl, (q _ k2 k3).go (I.hok.fresh (Nat.le_succ _))⟩
def rSortedIL (K : PySem.W.Frag) : List V → Hp → VK → Prop := fun vs H Q => ∃ (a : Addr) (ns : List Int), vs = [V.ref a] ∧ SqL K H a (ns.map V.int) ∧
  ∀ (ns' : List Int), ns'.Perm ns → ns'.Pairwise (· ≤ ·) → New H (.lst (ns'.map V.int)) fun p H2 => Q (.ref p) H2
theorem cr_sortedIL {X : Cx} : CallR X (.builtin "sorted") (rSortedIL X.K) := CallR.weak cr_sortedI fun xs H Q h => by
  obtain ⟨a, ns, e, h1, q⟩ := h
  exact ⟨a, ns, e, h1, fun ns' p k1 k2 hp => (q ns' k1 k2).go hp⟩
/-- sorted(d), d a dict with int keys -/
def rSortedDN : List V → Hp → VK → Prop := fun xs H Q => ∃ (a : Addr) (kvs : List (Key × V)) (ks : List Int), xs = [.ref a] ∧ H a = some (.dK kvs) ∧ kvs.map (·.1) = ks.map Sum.inl ∧ ks.length < 64 ∧
  ∀ (ns' : List Int), ns'.Perm ks → ns'.Pairwise (· ≤ ·) → New H (.lst (ns'.map V.int)) fun p H2 => Q (.ref p) H2
theorem cr_sortedDN {X : Cx} (hc : X.calm = true) : CallR X (.builtin "sorted") rSortedDN := CallR.weak (call_sortedDI hc) fun xs H Q h => by
  obtain ⟨a, kvs, ks, e, h1, h2, h3, q⟩ := h
  exact ⟨a, kvs, ks, e, .inl h1, h2, h3, fun ys p k1 k2 hp => (q ys k1 k2).go hp⟩
/-- list(range(..)) -/
def tLstRgN (te : L2.St → Hp → (Int → Int → Hp → Prop) → Prop) : TE := fun σ H Q => te σ H fun a b H1 => RgOk a b ∧ New H1 (.lst (rgV a b)) fun q H2 => Q (.ref q) H2
/-- a range's ends, told: whatever is wanted is wanted of less -/
def MoR (te : L2.St → Hp → (Int → Int → Hp → Prop) → Prop) : Prop := ∀ σ H F F', (∀ a b H1, F a b H1 → F' a b H1) → te σ H F → te σ H F'
theorem pe_listRgN {X : Cx} {e : Expr} {te : L2.St → Hp → (Int → Int → Hp → Prop) → Prop} {p pos : Pos} (hc : X.calm = true) (hg : Gl X "list") (hm : X.mg "list" = none) (he : PRg X e te) (mo : MoR te) (na : starEach [e] X.env = (false, eval e X.env) :: starEach [] X.env := by rfl) : PE X (.Call (.Name "list" p) [e] [] pos) (tLstRgN te) :=
  PE.weak (pe_listRg hc hg hm he na) fun σ H Q q => mo σ H _ _ (fun a b H1 h => ⟨h.1, fun q hq => h.2.go hq⟩) q
def MoE (te : TE) : Prop := ∀ σ H Q Q', (∀ v H1, Q v H1 → Q' v H1) → te σ H Q → te σ H Q'
theorem mo_var {i : Nat} : MoE (tVar i) := fun _ _ _ _ h ⟨v, e, q⟩ => ⟨v, e, h _ _ q⟩
theorem mo_rg1 {te : TE} (h : MoE te) : MoR (tRg1 te) := fun σ H F F' k q => h σ H _ _ (fun v H1 ⟨n, e, z⟩ => ⟨n, e, k _ _ _ z⟩) q
theorem mo_op {te tb : TE} {r : R2} (h : MoE te) (hb : MoE tb) (hr : ∀ x y H Q Q', (∀ v H1, Q v H1 → Q' v H1) → r x y H Q → r x y H Q') : MoE (tOp r te tb) := fun σ H Q Q' k q => h σ H _ _ (fun v H1 z => hb σ H1 _ _ (fun u H2 z => hr _ _ _ _ _ k z) z) q
theorem mo_fld {K : PySem.W.Frag} {te : TE} {f : Str} (h : MoE te) : MoE (tFld K te f) := fun σ H Q Q' k q => h σ H _ _ (fun v H1 ⟨a, C, dx, fs, v', e1, e2, e3, e4, e5, z⟩ => ⟨a, C, dx, fs, v', e1, e2, e3, e4, e5, k _ _ z⟩) q
section
variable {K : PySem.W.Frag} {σ : L2.St} {H : Hp} {Q : VK}
theorem w_lstRg {te : L2.St → Hp → (Int → Int → Hp → Prop) → Prop} (q : te σ H fun a b H1 => RgOk a b ∧ New H1 (.lst (rgV a b)) fun q H2 => Q (.ref q) H2) : tLstRgN te σ H Q := q
theorem w_rg1 {te : TE} {F : Int → Int → Hp → Prop} (q : te σ H fun x H1 => ∃ n, x = .int n ∧ F 0 n H1) : tRg1 te σ H F := q
end
end GA
/-! ## GF -/
namespace GA
open PySem PySem.Spec PyProof.Rows L2
def ltW (u v : Int × Int) : Prop := u.1 < v.1 ∨ (u.1 = v.1 ∧ u.2 < v.2)
def in64 (u : Int × Int) : Prop := (0 ≤ u.1 ∧ u.1 < 64) ∧ (0 ≤ u.2 ∧ u.2 < 64)
section
variable {K : PySem.W.Frag} {H : Hp}
theorem ks_of : ∀ {xs : List V} {us : List (Int × Int)}, DpAll K H xs (us.map dP) → ∃ ks : List (Addr × List Int), xs = (ks.map fun p => V.ref p.1) ∧ (∀ p ∈ ks, SqT K H p.1 (p.2.map V.int)) ∧ ks.map (·.2) = us.map fun u => [u.1, u.2]
  | _, [], .nil => ⟨[], rfl, (fun _ h => nomatch h), rfl⟩
  | _, u :: us, .cons h t => by
    obtain ⟨ks, rfl, h1, h2⟩ := ks_of t
    obtain ⟨a, rfl, ha⟩ := dp_dP h
    refine ⟨(a, [u.1, u.2]) :: ks, rfl, fun p hp => ?_, by rw [List.map_cons, h2]; rfl⟩
    rcases List.mem_cons.mp hp with e | hp
    · rw [e]; exact ha
    · exact h1 p hp
end
theorem dp_ks {K : PySem.W.Frag} {H : Hp} : ∀ (M : List (Addr × List Int)) (ws : List (Int × Int)), (∀ q ∈ M, SqT K H q.1 (q.2.map V.int)) → M.map (·.2) = (ws.map fun u => [u.1, u.2]) → DpAll K H (M.map fun q => V.ref q.1) (ws.map dP)
  | [], [], _, _ => .nil
  | [], _ :: _, _, e => by simp at e
  | _ :: _, [], _, e => by simp at e
  | q :: M, w :: ws, h, e => by
    rw [List.map_cons, List.map_cons] at e
    injection e with e1 e2
    refine .cons ?_ (dp_ks M ws (fun p hp => h p (List.mem_cons_of_mem _ hp)) e2)
    have z := h q List.mem_cons_self
    rw [e1] at z
    exact dp_ofP z
section
variable {X : Cx}
/-- set(l), l a list of pairs of ints -/
def rSetPN (K : PySem.W.Frag) (P : Program) (w : World) : List V → Hp → VK → Prop := fun vs H Q => ∃ (l : Addr) (xs : List V) (us : List (Int × Int)), vs = [V.ref l] ∧ SqL K H l xs ∧ DpAll K H xs (us.map dP) ∧ us.length < 64 ∧
  ∀ a L H2, H a = none → (∀ o, G o H H2) → H2 a = some (SetTO P w a L) → (∀ p ∈ L, SqT K H2 p.1 (p.2.map V.int)) → (∀ ns, ns ∈ L.map (·.2) ↔ ∃ u ∈ us, ns = [u.1, u.2]) → Q (.ref a) H2
theorem cr_setPN (hc : X.calm = true) (hu : X.A.units + 64 < cLine) : CallR X (.type "set") (rSetPN X.K X.prog X.w) := CallR.weak (cr_setOfT hc hu) fun vs H Q h => by
  obtain ⟨l, xs, us, e, hl, hd, hz, q⟩ := h
  obtain ⟨ks, rfl, h1, h2⟩ := ks_of hd
  have hz' : ks.length = us.length := by
    have := congrArg List.length h2
    simpa using this
  refine ⟨l, ks, e, hl, h1, by omega, fun a L ha s1 s2 => ?_⟩
  refine q a L _ ha (fun _ => G.alloc ha) upd_same (fun p hp => sqT_t ((G.alloc (o := none) ha).tups) (h1 p (s1 p hp))) fun ns => ?_
  have mem : ∀ ns, ns ∈ ks.map (·.2) ↔ ∃ u ∈ us, ns = [u.1, u.2] := fun ns => by
    rw [h2, List.mem_map]
    exact ⟨fun ⟨u, a, b⟩ => ⟨u, a, b.symm⟩, fun ⟨u, a, b⟩ => ⟨u, a, b.symm⟩⟩
  rw [← mem]
  constructor
  · intro h
    obtain ⟨p, hp, rfl⟩ := List.mem_map.mp h
    exact List.mem_map.mpr ⟨p, s1 p hp, rfl⟩
  · intro h
    obtain ⟨p, hp, rfl⟩ := List.mem_map.mp h
    exact s2 p hp
theorem code_lt {u v : Int × Int} (hu : in64 u) (hv : in64 v) (h : TS.code 64 [u.1, u.2] ≤ TS.code 64 [v.1, v.2]) : ltW u v ∨ u = v := by
  unfold in64 at hu hv
  rw [code_pair, code_pair] at h
  unfold ltW
  by_cases e : u.1 = v.1
  · by_cases e2 : u.2 = v.2
    · exact .inr (Prod.ext e e2)
    · exact .inl (.inr ⟨e, by omega⟩)
  · exact .inl (.inl (by omega))
/-- sorted(s), s a set of pairs of small ints -/
def rSortSN (K : PySem.W.Frag) (P : Program) (w : World) : List V → Hp → VK → Prop := fun vs H Q => ∃ (a : Addr) (L : List (Addr × List Int)) (us : List (Int × Int)), vs = [V.ref a] ∧ H a = some (SetTO P w a L) ∧ (∀ p ∈ L, SqT K H p.1 (p.2.map V.int)) ∧ (∀ ns, ns ∈ L.map (·.2) ↔ ∃ u ∈ us, ns = [u.1, u.2]) ∧ (∀ u ∈ us, in64 u) ∧
  ∀ ws : List (Int × Int), ws.Pairwise ltW → (∀ u, u ∈ ws ↔ u ∈ us) → ws.length < 64 → ∀ p H2 ys, H p = none → (∀ o, G o H H2) → H2 p = some (.lst ys) → DpAll K H2 ys (ws.map dP) → Q (.ref p) H2
theorem cr_sortSN (hc : X.calm = true) : CallR X (.builtin "sorted") (rSortSN X.K X.prog X.w) := CallR.weak (cr_sortedT hc) fun vs H Q h => by
  obtain ⟨a, L, us, e, ha, hk, hm, hb, q⟩ := h
  have get : ∀ p ∈ L, ∃ u ∈ us, p.2 = [u.1, u.2] := fun p hp => (hm p.2).mp (List.mem_map.mpr ⟨p, hp, rfl⟩)
  refine ⟨a, L, 2, 64, e, ha, hk, by decide, fun p hp => ?_, fun L' p pm nd few pw hp => ?_⟩
  · obtain ⟨u, hu, e⟩ := get p hp
    have b := hb u hu
    unfold in64 at b
    rw [e]
    refine ⟨rfl, ?_⟩
    intro n hn
    rcases List.mem_cons.mp hn with e | hn
    · subst e; exact ⟨b.1.1, b.1.2⟩
    · have : n = u.2 := by simpa using hn
      subst this; exact ⟨b.2.1, b.2.2⟩
  · have get' : ∀ p ∈ L', ∃ u ∈ us, p.2 = [u.1, u.2] := fun p hp => get p (pm.mem_iff.mp hp)
    -- the pairs in their order
    have ws_of : ∀ M : List (Addr × List Int), (∀ p ∈ M, p ∈ L') → ∃ ws : List (Int × Int), M.map (·.2) = (ws.map fun u => [u.1, u.2]) ∧ (∀ u ∈ ws, u ∈ us) := by
      intro M
      induction M with
      | nil => exact fun _ => ⟨[], rfl, (fun _ h => nomatch h)⟩
      | cons p M ih =>
        intro hM
        obtain ⟨ws, h1, h2⟩ := ih fun p hp => hM p (List.mem_cons_of_mem _ hp)
        obtain ⟨u, hu, e⟩ := get' p (hM p List.mem_cons_self)
        refine ⟨u :: ws, by rw [List.map_cons, List.map_cons, h1, e], fun v hv => ?_⟩
        rcases List.mem_cons.mp hv with z | z
        · rw [z]; exact hu
        · exact h2 v z
    obtain ⟨ws, e1, e2⟩ := ws_of L' fun _ h => h
    have len : L'.length = ws.length := by
      have := congrArg List.length e1
      simpa using this
    have inj : ∀ u v : Int × Int, ([u.1, u.2] : List Int) = [v.1, v.2] → u = v := fun u v h => by
      injection h with h1 h2
      injection h2 with h2 _
      exact Prod.ext h1 h2
    have pw2 : (L'.map (·.2)).Pairwise (fun x y => TS.code 64 x ≤ TS.code 64 y) := List.pairwise_map.mpr pw
    rw [e1] at pw2 nd
    have asc : ws.Pairwise ltW := by
      rw [List.pairwise_map] at pw2
      have nd' : ws.Nodup := (List.pairwise_map.mp nd).imp fun h e => h (by rw [e])
      exact (List.pairwise_iff_getElem.mpr fun i j hi hj hij => by
        have h1 := List.pairwise_iff_getElem.mp pw2 i j hi hj hij
        have h2 := List.pairwise_iff_getElem.mp nd' i j hi hj hij
        rcases code_lt (hb _ (e2 _ (List.getElem_mem hi))) (hb _ (e2 _ (List.getElem_mem hj))) h1 with z | z
        · exact z
        · exact absurd z h2)
    refine q ws asc (fun u => ⟨e2 u, fun hu => ?_⟩) (by omega) p _ _ hp (fun _ => G.alloc hp) upd_same ?_
    · have h1 : ([u.1, u.2] : List Int) ∈ L.map (·.2) := (hm _).mpr ⟨u, hu, rfl⟩
      have h2 : ([u.1, u.2] : List Int) ∈ L'.map (·.2) := (pm.map (·.2)).mem_iff.mpr h1
      rw [e1, List.mem_map] at h2
      obtain ⟨v, hv, e⟩ := h2
      rw [← inj _ _ e]; exact hv
    · have t : Ts H (upd H p (.lst (L'.map fun q => V.ref q.1))) := (G.alloc (o := none) hp).tups
      have hk' : ∀ q ∈ L', SqT X.K _ q.1 (q.2.map V.int) := fun q hq => sqT_t t (hk q (pm.mem_iff.mp hq))
      exact dp_ks L' ws hk' e1
/-- sorted(l), l a list of pairs of small ints -/
def rSortPN (K : PySem.W.Frag) : List V → Hp → VK → Prop := fun vs H Q => ∃ (a : Addr) (xs : List V) (us : List (Int × Int)), vs = [V.ref a] ∧ SqL K H a xs ∧ DpAll K H xs (us.map dP) ∧ us.length < 64 ∧ (∀ u ∈ us, in64 u) ∧
  ∀ us' : List (Int × Int), us'.Perm us → us'.Pairwise (fun u v => ltW u v ∨ u = v) → ∀ p H2 ys, H p = none → (∀ o, G o H H2) → H2 p = some (.lst ys) → DpAll K H2 ys (us'.map dP) → Q (.ref p) H2
theorem cr_sortPN : CallR X (.builtin "sorted") (rSortPN X.K) := by
  classical
  intro pins s σ H vs us0 Q I r h
  obtain ⟨a, xs, us, rfl, hs, hd, hz, hb, q⟩ := h
  have uniq : ∀ {v : V} {u u' : Int × Int}, Dp X.K H v (dP u) → Dp X.K H v (dP u') → u = u' := fun {v u u'} h h' => by
    obtain ⟨a, rfl, ha⟩ := dp_dP h
    obtain ⟨a', e, ha'⟩ := dp_dP h'
    cases e
    have z := I.tuple_inj ha ha'
    injection z with z1 z2
    injection z2 with z2 _
    exact Prod.ext (V.int.inj z1) (V.int.inj z2)
  let f : V → Int × Int := fun v => if h : ∃ u, Dp X.K H v (dP u) then h.choose else (0, 0)
  have fv : ∀ {v : V} {u : Int × Int}, Dp X.K H v (dP u) → f v = u := fun {v u} h => by
    have hx : ∃ u, Dp X.K H v (dP u) := ⟨u, h⟩
    have : f v = hx.choose := dif_pos hx
    rw [this]
    exact uniq hx.choose_spec h
  have all : ∀ {ys : List V} {ws : List (Int × Int)}, DpAll X.K H ys (ws.map dP) → ws = ys.map f := by
    intro ys ws h
    induction ws generalizing ys with
    | nil => cases h; rfl
    | cons w ws ih =>
      cases h with
      | cons h t => rw [List.map_cons, fv h, ← ih t]
  have e0 := all hd
  have at_ : ∀ y ∈ xs, ∃ u ∈ us, Dp X.K H y (dP u) := fun y hy => by
    obtain ⟨i, hi⟩ := List.getElem?_of_mem hy
    obtain ⟨d, hd1, hd2⟩ := DpAll.get hd hi
    rw [List.getElem?_map] at hd1
    obtain ⟨u, hu, rfl⟩ := Option.map_eq_some_iff.mp hd1
    exact ⟨u, List.mem_of_getElem? hu, hd2⟩
  refine cr_sortT (d := 2) (B := 64) (by decide) pins s σ H _ us0 Q I r ⟨a, xs, rfl, hs, by rw [DpAll.length hd, List.length_map]; exact hz, fun x hx => ?_, fun ys p pm pw hp => ?_⟩
  · obtain ⟨u, hu, hx⟩ := at_ x hx
    obtain ⟨t, rfl, ht⟩ := dp_dP hx
    have b := hb u hu
    unfold in64 at b
    refine ⟨[u.1, u.2], ⟨t, rfl, ht⟩, rfl, ?_⟩
    intro n hn
    rcases List.mem_cons.mp hn with e | hn
    · subst e; exact ⟨b.1.1, b.1.2⟩
    · have : n = u.2 := by simpa using hn
      subst this; exact ⟨b.2.1, b.2.2⟩
  · have aty : ∀ y ∈ ys, ∃ u ∈ us, Dp X.K H y (dP u) := fun y hy => at_ y (pm.mem_iff.mp hy)
    have t : Ts H (upd H p (.lst ys)) := (G.alloc (o := none) hp).tups
    refine q (ys.map f) (by rw [e0]; exact pm.map f) ?_ p _ ys hp (fun _ => G.alloc hp) upd_same ?_
    · rw [List.pairwise_map]
      refine pw.imp_of_mem fun {y z} hy hz2 h => ?_
      obtain ⟨u, hu, h1⟩ := aty y hy
      obtain ⟨v, hv, h2⟩ := aty z hz2
      rw [fv h1, fv h2]
      obtain ⟨t1, rfl, k1⟩ := dp_dP h1
      obtain ⟨t2, rfl, k2⟩ := dp_dP h2
      exact code_lt (hb u hu) (hb v hv) (h _ _ ⟨t1, rfl, k1⟩ ⟨t2, rfl, k2⟩)
    · refine dpAll_t t _ _ (nls_pairs _) ?_
      clear pm pw hp t
      induction ys with
      | nil => exact .nil
      | cons y ys ih =>
        obtain ⟨u, hu, h1⟩ := aty y List.mem_cons_self
        refine .cons ?_ (ih fun y hy => aty y (List.mem_cons_of_mem _ hy))
        rw [fv h1]; exact h1
/-- t + u, tuples -/
def rCatN (K : PySem.W.Frag) : R2 := fun x y H Q => ∃ a b xs ys, x = .ref a ∧ y = .ref b ∧ SqT K H a xs ∧ SqT K H b ys ∧ xs.length + ys.length ≤ 100000 ∧ ∀ p H2, (∀ o, G o H H2) → SqT K H2 p (xs ++ ys) → Q (.ref p) H2
theorem op_catN : OpR X (binaryOp .Add) (rCatN X.K) := OpR.weak op_catA fun x y H Q h => by
  obtain ⟨a, b, xs, ys, e1, e2, h1, h2, hz, q⟩ := h
  refine ⟨a, b, xs, ys, e1, e2, h1, h2, sz hz, fun e => ?_, fun _ e => ?_, fun _ _ p hp => ?_⟩
  · subst e; exact q b H (fun _ => G.refl) h2
  · subst e; exact q a H (fun _ => G.refl) (by rw [List.append_nil]; exact h1)
  · exact q p _ (fun _ => G.alloc hp) (SqT.of upd_same)
end
end GA
/-! ## GG -/
namespace PySem.W
open PySem PySem.Spec PySem.Calls PyProof.Rows
open Builtin
section
variable {prog : Program} {w : World} {A : Around} {E : Value → Shared → Prop} {K : Frag} {x C L f : Addr} {h₀ hh : Heap} {g : Array GenState} {d : Drawn} {t : Nat} {os : OsState} {m : Str → Option Value} {ox : Obj} {od : Option Obj} {b tb : Value}
theorem ga_ifBound_ne {M : Model} {args : List Value} {Q : Option Value → Shared → Prop} (X : K.In hh) (I : InstAt hh x ox C od) (hs : findIn K (.ref C) "__ne__" = some (some (.builtin "object.__ne__")))
    (h : wpAny M A (call (.builtin "object.__ne__") (.ref x :: args)) (fun v => Q (some v)) E ⟨hh, g, d, t, os⟩) : wpAny M A (callSpecialIfBound? (.ref x) "__ne__" args) Q E ⟨hh, g, d, t, os⟩ := by
  simp only [callSpecialIfBound?, bindSpecialIfBound?]
  refine wpAny_holding (wpAny_bind (wpAny_bind (wpAny_bind (I.type.here ((looks_findIn X hs).here ?_)))))
  simp only [F.cmp_object.ne.bind]
  refine wpAny_bind (wpAny_askSetting (wpAny_ite ?_))
  have fin : wpAny M A (call (.builtin "object.__ne__") ([.ref x] ++ args) >>= fun v => pure (some v)) Q E ⟨hh, g, d, t, os⟩ :=
    wpAny_bind (wpAny_mono h (fun v s' h' => wpAny_pure h') fun _ _ h' => h')
  split
  · first
      | exact wpAny_bind (wpAny_pure (wpAny_pure fin))
      | exact wpAny_pure (wpAny_pure fin)
      | exact wpAny_pure fin
      | exact wpAny_bind (wpAny_pure fin)
  · first
      | exact wpAny_tryCatch (wpAny_bind (wpAny_pure (wpAny_pure fin)))
      | exact wpAny_tryCatch (wpAny_pure (wpAny_pure fin))
      | exact wpAny_tryCatch (wpAny_pure fin)
      | exact wpAny_tryCatch (wpAny_bind (wpAny_pure fin))
theorem ga_check_ne {M : Model} {rest : List Value} {Q : Unit → Shared → Prop} (X : K.In hh) (I : InstAt hh x ox C od) (hm : mroIn K C (.type "object") = some true) (ha : argsOk "object.__ne__" ⟨.ref x :: rest, []⟩) (hq : Q () ⟨hh, g, d, t, os⟩) :
    wpAny M A (checkBuiltinCall "object.__ne__" ⟨.ref x :: rest, []⟩) Q E ⟨hh, g, d, t, os⟩ := by
  simp only [checkBuiltinCall, F.cmpKind_ne, F.cmpSplit_ne]
  refine wpAny_bind ?_
  unfold isInstance
  refine wpAny_bind (I.type.here ((looks_mroIn X hm).here ?_))
  simp only [Bool.not_true, Bool.false_eq_true, if_false]
  cases hsig : Manifest.signature? "object.__ne__" with
  | none => exact wpAny_pure hq
  | some sig =>
    simp only [argsOk, hsig] at ha
    have h2 : Bind.checkArgs "object.__ne__" sig ⟨.ref x :: rest, []⟩ = pure () := ha
    show wpAny M A (Bind.checkArgs "object.__ne__" sig ⟨.ref x :: rest, []⟩) Q E _
    rw [h2]; exact wpAny_pure hq
theorem ga_ne_body (X : K.In hh) (I : InstAt hh x ox C od) (hs : findIn K (.ref C) "__eq__" = some (some (.ref f))) (hf : isFn K (.ref f) = true) (hu : A.units < cLine) {Q : Fin → Shared → Prop}
    (h : wpAny (model prog w) A (call (.ref f) [.ref x, b]) (fun v s' => ∃ r, v = .bool r ∧ Q (.done (.ret (.bool (!r)))) s') E ⟨hh, g, d, t, os⟩) :
    wpAny (model prog w) A (Builtin.«object.__ne__» ⟨[.ref x, b], []⟩) Q E ⟨hh, g, d, t, os⟩ := by
  unfold Builtin.«object.__ne__»
  repeat (first
    | with_reducible refine wpAny_cRoomFor hu ?_
    | (refine wpAny_bind (m := callSpecialIfBound? (.ref x) (Str.ofString "__eq__") [b])
        (ifBound_K X I hs hf (wpAny_mono h (fun r s' hr => by
          obtain ⟨q, rfl, hq⟩ := hr
          repeat (first | exact hq | exact wpAny_pure hq | exact wpAny_truthy_bool hq | (refine wpAny_bind (m := truthy (.bool _)) (wpAny_truthy_bool ?_)) | wp_step)) fun _ _ e => e)))
    | wp_step)
theorem ga_ne_K {Q : Value → Shared → Prop} (hu : A.units + 1 < cLine) (F : Fr h₀ L hh m) (X₀ : K.In h₀) (I : InstAt hh x ox C od) (hb : Looks (model prog w) hh (typeOf b) tb) (hn : notFirst K C tb = true)
    (hs : findIn K (.ref C) "__eq__" = some (some (.ref f))) (hf : isFn K (.ref f) = true) (hne : findIn K (.ref C) "__ne__" = some (some (.builtin "object.__ne__"))) (hm : mroIn K C (.type "object") = some true)
    (h : wpAny (model prog w) A.in1 (call (.ref f) [.ref x, b]) (fun v s' => ∃ r, v = .bool r ∧ Q (.bool (!r)) s') E ⟨hh, g, d, t, os⟩) : wpAny (model prog w) A (richCompare .NotEq (.ref x) b) Q E ⟨hh, g, d, t, os⟩ := by
  have X := X₀.keeps F.keep
  have one : wpAny (model prog w) A (tryCompare (.ref x) (cmpInfo .NotEq).2.1 b) (fun r s' => ∃ v, r = some v ∧ Q v s') E ⟨hh, g, d, t, os⟩ := by
    rw [cmpInfo_NotEq]
    unfold tryCompare
    refine wpAny_bind (ga_ifBound_ne X I hne (wpAny_call (codeAny_call_builtin PySem.F.cmp_object.ne.plain PySem.F.cmpEntry_ne
      (ga_check_ne X I hm (PySem.F.cmpArgs_ne _ _) (ga_ne_body (A := A.in1) X I hs hf hu (wpAny_mono h (fun v s' hv => ?_) fun _ _ e => e))))))
    obtain ⟨r, rfl, hq⟩ := hv
    first | exact ⟨r, rfl, wpAny_pure ⟨_, rfl, hq⟩⟩ | exact ⟨r, rfl, wpAny_pure (wpAny_pure ⟨_, rfl, hq⟩)⟩
  unfold richCompare
  simp only [oneThing_ref]
  refine wpAny_holding (wpAny_bind (wpAny_cRoomFor (Nat.lt_of_succ_lt hu) ?_))
  refine wpAny_bind (I.type.here (wpAny_bind (hb.here ?_)))
  split
  · rename_i q
    have e : subIn K tb (.ref C) = some false := by
      rcases Bool.or_eq_true_iff.mp hn with e | e
      · rw [beq_iff_eq.mp e] at q; simp at q
      · exact beq_iff_eq.mp e
    refine wpAny_bind ((looks_subIn X e).here ?_)
    simp only [Bool.false_eq_true, if_false]
    refine wpAny_bind (wpAny_mono one (fun r s' z => ?_) fun _ _ e => e)
    obtain ⟨v, rfl, hq⟩ := z
    exact wpAny_pure hq
  · refine wpAny_bind (wpAny_pure ?_)
    simp only [Bool.false_eq_true, if_false]
    refine wpAny_bind (wpAny_mono one (fun r s' z => ?_) fun _ _ e => e)
    obtain ⟨v, rfl, hq⟩ := z
    exact wpAny_pure hq
end
end PySem.W
namespace GA
open PySem PySem.Spec PyProof.Rows L2
section
variable {X : Cx} {n : Nat}
/-- x != y of two instances whose own == says True -/
def rNeG (D : Eqv) : R2 := fun x y H Q => D x y H ∧ ∀ H', Ext H H' → Q (.bl false) H'
theorem op_neG {CX : CXT} {C f : Addr} {fd : FuncData} {ps : List Str} {R : Addr → Addr → Hp → Prop} {E : XK} (F : FnOk X.prog X.w X.K X.mg X.base CX n f fd ps (spEq R))
    (hs : PySem.W.findIn X.K (.ref C) "__eq__" = some (some (.ref f))) (hf : PySem.W.isFn X.K (.ref f) = true) (hb : Binds X.K fd ps []) (hx : Passes CX X E)
    (hne : PySem.W.findIn X.K (.ref C) "__ne__" = some (some (.builtin "object.__ne__"))) (hm : PySem.W.mroIn X.K C (.type "object") = some true) (rm : Room (n + 1) X.A) : OpR X (compareOp .NotEq) (rNeG (DIns C R)) := by
  intro pins s σ H x y u v Q I rx ry hq
  obtain ⟨⟨a, b, dx, dy, fs, gs, rfl, rfl, ha, hb', hr⟩, q⟩ := hq
  cases rx
  cases ry
  obtain ⟨mA, J, _⟩ := ins_get I.hok ha
  obtain ⟨mB, J', _⟩ := ins_get I.hok hb'
  obtain ⟨od, J, _⟩ := J.look
  obtain ⟨od', J', _⟩ := J'.look
  obtain ⟨m, hF⟩ := I.fr
  have rm1 : Room n X.A.in1 := rm.in1
  show wpAny (model X.prog X.w) X.A (richCompare .NotEq (.ref a) (.ref b)) (EP X pins σ Q) X.xe s
  refine PySem.W.ga_ne_K (tb := .ref C) rm1.units0 hF I.ok.mod.kin J J'.type (by simp [PySem.W.notFirst]) hs hf hne hm ?_
  have hsp : spEq R [.ref a, .ref b] H (fun v H' => v = .bl true ∧ Ext H H') E := ⟨a, b, rfl, hr, fun H' e => ⟨rfl, e⟩⟩
  have e0 : Env0 X.prog X.w X.K X.mg X.base X.A.in1 X.stack s H := ⟨I.env0.frames, I.env0.mod, I.env0.bs, I.env0.bsz, I.env0.funs, I.env0.frf, I.env0.hok, I.env0.bare⟩
  have hl := F.len _ _ _ _ hsp
  have r2 : Vals [V.ref a, V.ref b] [Value.ref a, Value.ref b] := .cons rfl (.cons rfl .nil)
  refine wpAny_call (codeAny_mono (F.run X.A.in1 X.stack s H ⟨[.ref a, .ref b], []⟩ [.ref a, .ref b] [.ref a, .ref b] _ E rm1 e0 (by
    have := hb s [.ref a, .ref b] I.kIn (by simpa using hl)
    simpa using this) r2 hsp) fun r s' hq => ?_)
  cases r with
  | error e => exact hx pins σ H s e s' I hq
  | ok fl =>
    cases fl with
    | ret w =>
      obtain ⟨z, H', I', rz, ez, ex⟩ := I.after hq
      subst ez
      cases rz
      exact ⟨true, rfl, .bl false, H', I', rfl, q H' ex⟩
    | next => exact False.elim hq
    | brk => exact False.elim hq
    | cont => exact False.elim hq
end
end GA
/-! ## GH -/
namespace L2
open PySem PySem.Spec PyProof.Rows
/-- the set as it is laid, and the heap with it -/
abbrev eset (w : World) : Obj := { cls := .type "set", dict := none, data := .set #[] 0 (.fresh 0 0 (!w.params.followText "set-order")) }
abbrev eheap (w : World) (h : Heap) : Heap := h.push (eset w)
section
variable {P : Program} {w : World} {A : Around} {E : Value → Shared → Prop} {s : Shared}
theorem gone_above {h : Heap} {b : Addr} (hb : h.objs.size ≤ b) : h.get? b = none := by
  cases q : h.get? b with
  | none => rfl
  | some o => exact absurd (Heap.lt_size q) (Nat.not_lt.mpr hb)
/-- set(t), t a tuple whose items are tuples of ints -/
theorem ga_set_of_tuple {l : Addr} {its : Array Value} (ks : List (Addr × List Int)) {Q : Value → Shared → Prop} (quiet : A.handled = none) (hl : s.heap.IsTuple l its) (hit : its.toList = ks.map fun p => Value.ref p.1)
    (hk : ∀ p ∈ ks, IsT P w s.heap p.2 p.1) (few : ks.length < 64) (un : A.units + 3 < cLine)
    (q : ∀ (h' : Heap) (tk : Nat) L es ep t, SetTR P w h' s.heap.objs.size L es ep t → Got ks ks.length L → (∀ b o, s.heap.get? b = some o → h'.get? b = some o) → Q (.ref s.heap.objs.size) { s with heap := h', toks := tk }) :
    wpAny (model P w) A (call (.type "set") [.ref l]) Q E s := by
  have isz : its.size = ks.length := by simpa using congrArg List.length hit
  have C := F.called_set
  obtain ⟨c, tl, m1⟩ := C.mro
  have m2 := C.made
  have m3 := C.sub
  have m4 := C.notType
  have m5 := C.canCreate
  have m6 := F.typeCall_set_1 (.ref l)
  refine wpAny_call (codeAny_of_tree (?_ : wpAny _ _ (callAny (.type "set") _) _ _ _))
  refine wpAny_pure ⟨Code.quiet_builtin _ (by decide +kernel), codeAny_builtin F.entry_type_call ?_⟩
  rw [Around.under_plain (weight_type_call_type "set" [.ref l] []) rfl]
  repeat (any_goals (first | assumption | wp_step))
  refine codeAny_mono (code_set_led1 (.ref l) (E := E) (Q₁ := fun ob s1 => ob = .ref s.heap.objs.size ∧ s1 = { s with heap := eheap w s.heap }) ⟨rfl, rfl⟩) fun r s1 hr => ?_
  match r, hr with
  | .error e, hr => exact hr
  | .ok .next, hr => exact hr.elim
  | .ok .brk, hr => exact hr.elim
  | .ok .cont, hr => exact hr.elim
  | .ok (.ret ob), hr =>
    obtain ⟨e1, e2⟩ := hr
    subst e1 e2
    have at0 : (eheap w s.heap).get? s.heap.objs.size = some (eset w) := Heap.get?_push_size _ rfl
    have ty0 : Shared.TypeIs { s with heap := eheap w s.heap } (.ref s.heap.objs.size) "set" := ⟨_, at0, rfl⟩
    have m7 := C.init.lookup
    have m8 := C.init.bind (.ref s.heap.objs.size)
    repeat (any_goals (first | assumption | wp_step))
    refine codeAny_mono (codeAny_call_builtin (R := wants (fun r s2 => r = .none ∧ ∃ h' tk L es ep t, s2 = { s with heap := h', toks := tk } ∧ SetTR P w h' s.heap.objs.size L es ep t ∧ Got ks ks.length L ∧
      (∀ b o, s.heap.get? b = some o → h'.get? b = some o)) E) C.init.plain F.entry_set_init (check_set_init_1 ty0 ?_)) fun r2 s2 hr2 => ?_
    · have hl1 : (eheap w s.heap).IsTuple l its := hl.push _
      obtain ⟨⟨oc, od, odt, osl⟩, ho, e1, nl, e2⟩ := id hl1
      simp only at e1 e2
      subst e1 e2
      have lS : l < s.heap.objs.size := by
        obtain ⟨o, h, _⟩ := hl
        exact Heap.lt_size h
      have n1 := F.sub_tuple_set
      have n2 := F.sub_tuple_frozenset
      have n3 : (Value.type "tuple" == Value.type "dict") = false := by decide
      have z1 : (eheap w s.heap).objs.size = s.heap.objs.size + 1 := Heap.size_push ..
      have nI : l ≠ (eheap w s.heap).objs.size := by
        rw [z1]; exact Nat.ne_of_lt (Nat.lt_succ_of_lt lS)
      unfold Builtin.«set.__init__» noKeywords Builtin.Frozenset.updateFrom
      generalize hpi : pyIter = PI
      wp_walk
      subst hpi
      refine wpAny_pyIter_tuple hl1 (wpAny_bind (wpAny_runValue ?_))
      have val : ∀ (i : Nat) (v : Value), its[i]? = some v → ∃ p, ks[i]? = some p ∧ v = .ref p.1 := fun i v hv => by
        have z : (ks.map fun p => Value.ref p.1)[i]? = some v := by rw [← hit, Array.getElem?_toList]; exact hv
        rw [List.getElem?_map] at z
        obtain ⟨p, hp, e⟩ := Option.map_eq_some_iff.mp z
        exact ⟨p, hp, e.symm⟩
      refine set_update_tups ((Walks.tuple (by simp [quiet]) _ l nI its).toS) s.heap.objs.size ?f1 ks isz few val s.heap hk (gone_above (Nat.le_refl _)) ?f2 (by simp; omega) (its.size - 0) 0 _ (by omega) (Nat.zero_le _)
        ⟨⟨_, Heap.get?_push_size _ rfl, rfl, rfl⟩, hl1.push _⟩ (fun b o e => Heap.get?_push_of_some _ (Heap.get?_push_of_some _ e)) ?f3 ?f4
      case f1 =>
        rw [z1]
        simp only [List.mem_cons, List.not_mem_nil, or_false, not_or]
        exact ⟨Nat.ne_of_lt (Nat.lt_succ_self _), Nat.ne_of_gt lS⟩
      case f2 =>
        intro b hb
        refine gone_above ?_
        rw [List.mem_singleton.mp hb, z1]
        exact Nat.le_succ _
      case f3 => exact ⟨[], #[], 0, _, setTR_fresh (Heap.get?_push_of_some _ at0), Got.zero ks⟩
      case f4 =>
        rintro ⟨h', g2, d', tk', os'⟩ L es ep t mv R got kp
        obtain rfl : g2 = s.gens := mv.gens
        obtain rfl : d' = s.drawn := mv.drawn
        obtain rfl : os' = s.os := mv.os
        rw [isz] at got
        exact wpAny_pure (wpAny_pure ⟨rfl, h', tk', L, es, ep, t, rfl, R, got, kp⟩)
    · match r2, hr2 with
      | .error e, hr2 => exact hr2
      | .ok .next, hr2 => exact hr2.elim
      | .ok .brk, hr2 => exact hr2.elim
      | .ok .cont, hr2 => exact hr2.elim
      | .ok (.ret z), hr2 =>
        obtain ⟨e3, h', tk, L, es, ep, t, e4, R, got, kp⟩ := hr2
        subst e3 e4
        repeat (any_goals (first | assumption | wp_step))
        exact q _ _ _ _ _ _ R got kp
end
end L2
/-! ## GI -/
namespace GA
open PySem PySem.Spec PyProof.Rows L2
/-! ### a list of pairs being filled -/
def Fil (K : PySem.W.Frag) (o : Option (Addr × Addr)) (H0 H : Hp) (D : Addr) (us : List (Int × Int)) : Prop := G o H0 H ∧ ∃ xs, H D = some (.lst xs) ∧ DpAll K H xs (us.map dP)
section
variable {K : PySem.W.Frag} {o : Option (Addr × Addr)} {H0 H H1 H' : Hp} {D : Addr} {us : List (Int × Int)}
theorem back_none (g : G none H0 H1) (h : H1 D = none) : H0 D = none := by
  cases c : H0 D with
  | none => rfl
  | some u => rw [g.all _ _ c] at h; cases h
theorem Fil.nil (g : G o H0 H1) (h0 : H0 D = none) (hh : ∀ p, o = some p → Hand H0 p.1 p.2) : Fil K o H0 (upd H1 D (.lst [])) D [] := ⟨g.mut h0 hh, [], upd_same, .nil⟩
theorem Fil.g (f : Fil K o H0 H D us) (g : G o H H') (off : Off o D) : Fil K o H0 H' D us := by
  obtain ⟨g0, xs, h1, h2⟩ := f
  exact ⟨g0.trans g, xs, g.keep _ _ off h1, dpAll_t g.tups _ _ (nls_pairs us) h2⟩
theorem Fil.app (f : Fil K o H0 H D us) (h0 : H0 D = none) (hh : ∀ p, o = some p → Hand H0 p.1 p.2) {v : V} {u : Int × Int} (hv : Dp K H v (dP u)) (hz : us.length ≤ 90000) :
    ∃ acc, H D = some (.lst acc) ∧ acc.length < sizeLine ∧ Fil K o H0 (upd H D (.lst (acc ++ [v]))) D (us ++ [u]) := by
  obtain ⟨g0, xs, h1, h2⟩ := f
  have t : Ts H (upd H D (.lst (xs ++ [v]))) := Ts.updl h1
  have l2 := DpAll.length h2
  rw [List.length_map] at l2
  refine ⟨xs, h1, Nat.lt_of_le_of_lt (by omega : xs.length ≤ 90000) (by decide), g0.mut h0 hh, _, upd_same, ?_⟩
  rw [List.map_append]
  exact DpAll.app (dpAll_t t _ _ (nls_pairs us) h2) (DpAll.one (dp_t t _ _ (nl_dP u) hv))
end
/-! ### two for -/
section
variable {J J1 : It} {n n1 : Nat} {Gd G1 : Hp → Prop} {Y Y1 : Nat → Hp → V → Hp → Prop} {g g1 : TG} {tt tt1 : TT} {te : TE} {wi1 : TI} {vs vs1 : List Nat} {σ σ2 : L2.St} {H1 H4 : Hp} {D : Addr} {Qd Nx : Hp → Prop}
theorem lc2_it (w : Walk J n Gd Y) (Pv : Nat → Hp → Prop) (h0 : Pv 0 (upd H1 D (.lst []))) (hG : ∀ i H, i ≤ n → Pv i H → Gd H)
    (hs : ∀ i x H H', i < n → Pv i H → Y i H x H' → g x (wipe σ vs) H' fun σ2 H2 => wipe σ2 vs = wipe σ vs ∧ tt σ2 H2 fun b H3 =>
      if b = true then wi1 σ2 H3 fun J1 H4 => ∃ W1 : Nat → Nat → Hp → Prop, (∃ m, W1 0 m H4) ∧ ∀ j k H, W1 j k H →
        (J1.stop j H ∧ Pv (i + 1) H) ∨ (J1.go j H ∧ ∃ Nx1 : Hp → Prop, (∀ H', Nx1 H' → ∃ k', k' < k ∧ W1 (j + 1) k' H') ∧ ∀ x H', J1.yld j H x H' → g1 x (wipe σ2 vs1) H' fun σ3 H5 => wipe σ3 vs1 = wipe σ2 vs1 ∧ tt1 σ3 H5 fun b H6 =>
          if b = true then te σ3 H6 fun y H7 => ∃ acc, H7 D = some (.lst acc) ∧ acc.length < sizeLine ∧ Nx1 (upd H7 D (.lst (acc ++ [y]))) else Nx1 H6)
      else Pv (i + 1) H3) (hd : ∀ H, Pv n H → Qd H) :
    ∃ W : Nat → Nat → Hp → Prop, (∃ m, W 0 m (upd H1 D (.lst []))) ∧ ∀ i m H, W i m H →
      (J.stop i H ∧ Qd H) ∨ (J.go i H ∧ ∃ Nx : Hp → Prop, (∀ H', Nx H' → ∃ m', m' < m ∧ W (i + 1) m' H') ∧ ∀ x H', J.yld i H x H' → g x (wipe σ vs) H' fun σ2 H2 => wipe σ2 vs = wipe σ vs ∧ tt σ2 H2 fun b H3 =>
        if b = true then wi1 σ2 H3 fun J1 H4 => ∃ W1 : Nat → Nat → Hp → Prop, (∃ m, W1 0 m H4) ∧ ∀ j k H, W1 j k H →
          (J1.stop j H ∧ Nx H) ∨ (J1.go j H ∧ ∃ Nx1 : Hp → Prop, (∀ H', Nx1 H' → ∃ k', k' < k ∧ W1 (j + 1) k' H') ∧ ∀ x H', J1.yld j H x H' → g1 x (wipe σ2 vs1) H' fun σ3 H5 => wipe σ3 vs1 = wipe σ2 vs1 ∧ tt1 σ3 H5 fun b H6 =>
            if b = true then te σ3 H6 fun y H7 => ∃ acc, H7 D = some (.lst acc) ∧ acc.length < sizeLine ∧ Nx1 (upd H7 D (.lst (acc ++ [y]))) else Nx1 H6)
        else Nx H3) := by
  refine ⟨fun i m H => m = n - i ∧ i ≤ n ∧ Pv i H, ⟨n, by simp, Nat.zero_le _, h0⟩, ?_⟩
  rintro i m H ⟨rfl, hi, p⟩
  have q := hG i H hi p
  by_cases c : i < n
  · exact .inr ⟨w.goes i H c q, Pv (i + 1), fun H' p' => ⟨n - (i + 1), by omega, rfl, c, p'⟩, fun x H' y => hs i x H H' c p (w.yields i H x H' c q y)⟩
  · obtain rfl : i = n := by omega
    exact .inl ⟨w.stops H q, hd H p⟩
theorem in_it (w : Walk J1 n1 G1 Y1) (P1 : Nat → Hp → Prop) (h0 : P1 0 H4) (hG : ∀ j H, j ≤ n1 → P1 j H → G1 H)
    (hs : ∀ j x H H', j < n1 → P1 j H → Y1 j H x H' → g1 x (wipe σ2 vs1) H' fun σ3 H5 => wipe σ3 vs1 = wipe σ2 vs1 ∧ tt1 σ3 H5 fun b H6 =>
      if b = true then te σ3 H6 fun y H7 => ∃ acc, H7 D = some (.lst acc) ∧ acc.length < sizeLine ∧ P1 (j + 1) (upd H7 D (.lst (acc ++ [y]))) else P1 (j + 1) H6) (hd : ∀ H, P1 n1 H → Nx H) :
    ∃ W1 : Nat → Nat → Hp → Prop, (∃ m, W1 0 m H4) ∧ ∀ j k H, W1 j k H →
      (J1.stop j H ∧ Nx H) ∨ (J1.go j H ∧ ∃ Nx1 : Hp → Prop, (∀ H', Nx1 H' → ∃ k', k' < k ∧ W1 (j + 1) k' H') ∧ ∀ x H', J1.yld j H x H' → g1 x (wipe σ2 vs1) H' fun σ3 H5 => wipe σ3 vs1 = wipe σ2 vs1 ∧ tt1 σ3 H5 fun b H6 =>
        if b = true then te σ3 H6 fun y H7 => ∃ acc, H7 D = some (.lst acc) ∧ acc.length < sizeLine ∧ Nx1 (upd H7 D (.lst (acc ++ [y]))) else Nx1 H6) := by
  refine ⟨fun i m H => m = n1 - i ∧ i ≤ n1 ∧ P1 i H, ⟨n1, by simp, Nat.zero_le _, h0⟩, ?_⟩
  rintro i m H ⟨rfl, hi, p⟩
  have q := hG i H hi p
  by_cases c : i < n1
  · exact .inr ⟨w.goes i H c q, P1 (i + 1), fun H' p' => ⟨n1 - (i + 1), by omega, rfl, c, p'⟩, fun x H' y => hs i x H H' c p (w.yields i H x H' c q y)⟩
  · obtain rfl : i = n1 := by omega
    exact .inl ⟨w.stops H q, hd H p⟩
theorem w_lc2 {wi : TI} {Q : VK} (q : wi σ H1 fun J H1 => ∀ D, H1 D = none → ∃ W : Nat → Nat → Hp → Prop, (∃ m, W 0 m (upd H1 D (.lst []))) ∧ ∀ i m H, W i m H →
  (J.stop i H ∧ Q (.ref D) H) ∨ (J.go i H ∧ ∃ Nx : Hp → Prop, (∀ H', Nx H' → ∃ m', m' < m ∧ W (i + 1) m' H') ∧ ∀ x H', J.yld i H x H' → g x (wipe σ vs) H' fun σ2 H2 => wipe σ2 vs = wipe σ vs ∧ tt σ2 H2 fun b H3 =>
    if b = true then wi1 σ2 H3 fun J1 H4 => ∃ W1 : Nat → Nat → Hp → Prop, (∃ m, W1 0 m H4) ∧ ∀ j k H, W1 j k H →
      (J1.stop j H ∧ Nx H) ∨ (J1.go j H ∧ ∃ Nx1 : Hp → Prop, (∀ H', Nx1 H' → ∃ k', k' < k ∧ W1 (j + 1) k' H') ∧ ∀ x H', J1.yld j H x H' → g1 x (wipe σ2 vs1) H' fun σ3 H5 => wipe σ3 vs1 = wipe σ2 vs1 ∧ tt1 σ3 H5 fun b H6 =>
        if b = true then te σ3 H6 fun y H7 => ∃ acc, H7 D = some (.lst acc) ∧ acc.length < sizeLine ∧ Nx1 (upd H7 D (.lst (acc ++ [y]))) else Nx1 H6)
    else Nx H3)) : tLc2 wi g tt wi1 g1 tt1 te vs vs1 σ H1 Q := q
end
/-! ### a list or a tuple -/
def iSeq (K : PySem.W.Frag) (te : TE) : TI := fun σ H R => te σ H fun x H1 => ∃ a, x = .ref a ∧ (((∃ xs, SqL K H1 a xs) ∧ R (Itl K a) H1) ∨ ((∃ xs, SqT K H1 a xs) ∧ R (Itt K a) H1))
section
variable {X : Cx}
theorem pi_seq {tg l : Expr} {tl : TE} (hl : PE X l tl) : PI X tg l (iSeq X.K tl) := by
  refine ⟨fun pins s σ H R I h => ?_⟩
  refine thn (hl.run pins s σ H _ I h) fun v s1 ⟨x, H1, I1, r1, a, e, q1⟩ => ?_
  subst e
  cases r1
  rcases q1 with ⟨⟨xs, hq⟩, q⟩ | ⟨⟨xs, hq⟩, q⟩
  · obtain ⟨its, rv, p, _⟩ := I1.list hq
    refine wpAny_pyIter_list p.isList ⟨s1.heap.objs.size, [s1.heap.objs.size], _, _, H1, rfl, I1.kept (t' := s1.toks) fun b o e => Heap.get?_push_of_some _ e, turn_list a _, ⟨_, Heap.get?_push_size _ rfl, rfl, rfl⟩, fun b hb => ?_, q⟩
    obtain rfl : b = s1.heap.objs.size := by simpa using hb
    exact I1.fpOk (Nat.le_refl _) (I1.hok.fresh (Nat.le_refl _))
  · obtain ⟨its, rv, p, _⟩ := I1.tuple hq
    refine wpAny_pyIter_tuple p ⟨s1.heap.objs.size, [s1.heap.objs.size], _, _, H1, rfl, I1.kept (t' := s1.toks) fun b o e => Heap.get?_push_of_some _ e, turn_tuple a _, ⟨_, Heap.get?_push_size _ rfl, rfl, rfl⟩, fun b hb => ?_, q⟩
    obtain rfl : b = s1.heap.objs.size := by simpa using hb
    exact I1.fpOk (Nat.le_refl _) (I1.hok.fresh (Nat.le_refl _))
theorem k_pi_seq (K : PySem.W.Frag) {tg l : Expr} {tl : TE} (hl : PE X l tl) (hK : X.K = K := by rfl) : PI X tg l (iSeq K tl) := by subst hK; exact pi_seq hl
theorem w_iseq {K : PySem.W.Frag} {te : TE} {σ : L2.St} {H : Hp} {R : It → Hp → Prop} (q : te σ H fun x H1 => ∃ a, x = .ref a ∧ (((∃ xs, SqL K H1 a xs) ∧ R (Itl K a) H1) ∨ ((∃ xs, SqT K H1 a xs) ∧ R (Itt K a) H1))) : iSeq K te σ H R := q
/-- set(xs), a list or a tuple of pairs of ints -/
def rSetPA (K : PySem.W.Frag) (P : Program) (w : World) : List V → Hp → VK → Prop := fun vs H Q => ∃ (l : Addr) (xs : List V) (us : List (Int × Int)), vs = [V.ref l] ∧ (SqL K H l xs ∨ SqT K H l xs) ∧ DpAll K H xs (us.map dP) ∧ us.length < 64 ∧
  ∀ a L H2, H a = none → (∀ o, G o H H2) → H2 a = some (SetTO P w a L) → (∀ p ∈ L, SqT K H2 p.1 (p.2.map V.int)) → (∀ ns, ns ∈ L.map (·.2) ↔ ∃ u ∈ us, ns = [u.1, u.2]) → Q (.ref a) H2
theorem cr_setPA (hc : X.calm = true) (hu : X.A.units + 64 < cLine) : CallR X (.type "set") (rSetPA X.K X.prog X.w) := by
  intro pins s σ H vs us0 Q I r h
  obtain ⟨l, xs, us, rfl, hl, hd, hz, q⟩ := h
  rcases hl with hl | hl
  · exact cr_setPN hc hu pins s σ H _ us0 Q I r ⟨l, xs, us, rfl, hl, hd, hz, q⟩
  · obtain ⟨ks, rfl, h1, h2⟩ := ks_of hd
    have hz' : ks.length = us.length := by simpa using congrArg List.length h2
    rw [Vals.ref1 r]
    obtain ⟨its, rv, pl, _⟩ := I.tuple hl
    have hn : H s.heap.objs.size = none := I.hok.fresh (Nat.le_refl _)
    refine ga_set_of_tuple (P := X.prog) (w := X.w) ks (I.ok.hd hc) pl (by simpa using refs_of_vals rv) (fun p hp => I.isT (h1 p hp)) (by omega) (by omega) fun h' tk L es ep t R g k => ?_
    refine ⟨.ref s.heap.objs.size, upd H s.heap.objs.size (SetTO X.prog X.w s.heap.objs.size L), I.laid (t' := tk) k (Nat.le_refl _) (setTO_new R.t0), rfl, q _ L _ hn (fun _ => G.alloc hn) upd_same (fun p hp => sqT_t ((G.alloc (o := none) hn).tups) (h1 p (List.mem_of_mem_take (g.sub p hp)))) fun ns => ?_⟩
    have mem : ns ∈ ks.map (·.2) ↔ ∃ u ∈ us, ns = [u.1, u.2] := by
      rw [h2, List.mem_map]
      exact ⟨fun ⟨u, a, b⟩ => ⟨u, a, b.symm⟩, fun ⟨u, a, b⟩ => ⟨u, a, b.symm⟩⟩
    rw [← mem]
    constructor
    · intro h
      obtain ⟨p, hp, rfl⟩ := List.mem_map.mp h
      exact List.mem_map.mpr ⟨p, List.mem_of_mem_take (g.sub p hp), rfl⟩
    · intro h
      obtain ⟨p, hp, rfl⟩ := List.mem_map.mp h
      exact g.all p (by rw [List.take_length]; exact hp)
/-- t.index(z), t a tuple of ints -/
def rIndexTI (K : PySem.W.Frag) : V → List V → Hp → VK → Prop := fun x xs H Q => ∃ (p : Addr) (ns : List Int) (z : Int) (j : Nat), x = .ref p ∧ xs = [.int z] ∧ SqT K H p (ns.map V.int) ∧ ns[j]? = some z ∧ (∀ m, m < j → ns[m]? ≠ some z) ∧ Q (.int (j : Nat)) H
theorem mt_indexTI : MtR X "tuple.index" (rIndexTI X.K) := by
  intro pins s σ H x xs v us Q I rx rs h
  obtain ⟨p, ns, z, j, rfl, rfl, hq, hy, hno, q⟩ := h
  cases rx
  obtain ⟨u, rfl, t, rfl⟩ := vals1 rs
  obtain ⟨its, r, ⟨⟨cls, dd, dt, sl⟩, ho, hc, n, hd⟩, hz⟩ := I.tuple hq
  simp only at hc hd
  subst hc hd
  have hl : its.toArray.size = ns.length := by rw [List.size_toArray, ← r.length, List.length_map]
  have it : ∀ (m : Nat) (hm : m < its.toArray.size), ∃ y t', ns[m]? = some y ∧ its.toArray[m] = Value.int y t' := fun m hm => by
    have hm' : m < ns.length := by rw [← hl]; exact hm
    obtain ⟨w, hw, t', hw'⟩ := r.get (i := m) (x := .int ns[m]) (by simp [hm'])
    refine ⟨ns[m], t', List.getElem?_eq_getElem hm', ?_⟩
    have e := (List.getElem?_eq_some_iff.mp hw).2
    rw [← hw', ← e]
    simp
  have flat : (ns.map V.int).all flatV = true := by rw [List.all_map, List.all_eq_true]; exact fun _ _ => rfl
  have jl : j < its.toArray.size := by rw [hl]; exact (List.getElem?_eq_some_iff.mp hy).1
  refine call_meets PySem.F.slot_tuple_index ⟨_, ho, rfl⟩ PySem.F.entry_tuple_index (PySem.F.args_tuple_index_2 _ _) (TI.tuple_indexAt p its.toArray n dd sl (.int z t) (eqU (.int z)) j jl ?_ ?_)
    ⟨ho, fun w hw => mem_eqAt (x := .int z) ⟨t, rfl⟩ rfl r flat w (by simpa using hw), ⟨.int (j : Nat), H, I.tok _, ⟨_, rfl⟩, q⟩⟩
  · obtain ⟨y, t', h1, h2⟩ := it j jl
    rw [hy] at h1
    cases h1
    rw [h2]
    exact beq_self_eq_true z
  · intro m hm hmj
    obtain ⟨y, t', h1, h2⟩ := it m hm
    rw [h2]
    have ne : y ≠ z := fun e => hno m hmj (by rw [h1, e])
    exact beq_eq_false_iff_ne.mpr ne
theorem k_mt_indexTI (K : PySem.W.Frag) (hK : X.K = K := by rfl) : MtR X "tuple.index" (rIndexTI K) := by subst hK; exact mt_indexTI
/-- xs + ys, lists -/
def rCatLN : R2 := fun x y H Q => ∃ l b xs zs, x = .ref l ∧ y = .ref b ∧ H l = some (.lst xs) ∧ H b = some (.lst zs) ∧ xs.length + zs.length ≤ 100000 ∧ New H (.lst (xs ++ zs)) fun p H2 => Q (.ref p) H2
theorem op_catLN : OpR X (binaryOp .Add) rCatLN := OpR.weak op_cat fun x y H Q h => by
  obtain ⟨l, b, xs, zs, e1, e2, h1, h2, hz, q⟩ := h
  exact ⟨l, b, xs, zs, e1, e2, h1, h2, sz hz, fun p hp => q.go hp⟩
end
end GA
/-! ## GJ -/
namespace GA
open PySem PySem.Spec PyProof.Rows L2
/-! ### dict(pairs) whose keys are tuples -/
/-- one pair (key, value): where the pair's tuple stands, the key, where the key stands, the value -/
structure DPair where
  at_ : Addr
  key : List L2.Key
  kat : Addr
  val : V
def rDictPT : List V → Hp → VK → Prop := fun xs H Q => ∃ (a : Addr) (L : List DPair), xs = [.ref a] ∧ H a = some (.lst (L.map fun q => V.ref q.at_)) ∧ (∀ q ∈ L, H q.at_ = some (.tup [.ref q.kat, q.val]) ∧ H q.kat = some (.tup (q.key.map kV))) ∧ (L.map fun q => q.key).Nodup ∧ New H (.dT (L.map fun q => (q.key, q.val))) fun p H2 => Q (.ref p) H2
section
variable {X : Cx}
theorem pairs_told {pins : List (Addr × Obj)} {σ : L2.St} {H : Hp} {s : Shared} (I : Inv X pins σ H s) : ∀ (L : List DPair), (∀ q ∈ L, H q.at_ = some (.tup [.ref q.kat, q.val]) ∧ H q.kat = some (.tup (q.key.map kV))) →
    ∃ prs : List (List L2.Key × Addr × Value), Paired (fun (q : DPair) (p : List L2.Key × Addr × Value) => p.1 = q.key ∧ p.2.1 = q.kat ∧ RelV q.val p.2.2 ∧ s.heap.IsTuple q.at_ #[.ref q.kat, p.2.2]) L prs
  | [], _ => ⟨[], .nil⟩
  | q :: L, h => by
    obtain ⟨prs, r⟩ := pairs_told I L fun q' hq => h q' (List.mem_cons_of_mem _ hq)
    obtain ⟨h1, _⟩ := h q List.mem_cons_self
    obtain ⟨_, its, rv, pl⟩ := I.hok q.at_ _ h1
    cases rv with
    | cons r1 r2 =>
      cases r2 with
      | cons r2 r3 =>
        cases r3
        cases r1
        exact ⟨(q.key, q.kat, _) :: prs, .cons ⟨rfl, rfl, r2, pl⟩ r⟩
theorem paired_len {α β : Type} {F : α → β → Prop} : ∀ {l : List α} {m : List β}, Paired F l m → l.length = m.length
  | _, _, .nil => rfl
  | _, _, .cons _ t => by rw [List.length_cons, List.length_cons, paired_len t]
theorem paired_at {α β : Type} {F : α → β → Prop} : ∀ {l : List α} {m : List β} {i : Nat} {y : β}, Paired F l m → m[i]? = some y → ∃ x, l[i]? = some x ∧ F x y
  | _, _, _, _, .nil, e => by simp at e
  | _, _, 0, _, .cons h _, e => by simp at e; subst e; exact ⟨_, rfl, h⟩
  | _, _, i + 1, y, .cons _ t, e => by
    obtain ⟨x, h1, h2⟩ := paired_at (i := i) (y := y) t (by simpa using e)
    exact ⟨x, by simpa using h1, h2⟩
theorem paired_keys {s : Shared} {L : List DPair} {prs : List (List L2.Key × Addr × Value)} (r : Paired (fun (q : DPair) (p : List L2.Key × Addr × Value) => p.1 = q.key ∧ p.2.1 = q.kat ∧ RelV q.val p.2.2 ∧ s.heap.IsTuple q.at_ #[.ref q.kat, p.2.2]) L prs) : prs.map (·.1) = L.map fun q => q.key := by
  induction r with
  | nil => rfl
  | cons h _ ih => rw [List.map_cons, List.map_cons, ih, h.1]
theorem paired_kt {s : Shared} {H : Hp} {L : List DPair} {prs : List (List L2.Key × Addr × Value)} (r : Paired (fun (q : DPair) (p : List L2.Key × Addr × Value) => p.1 = q.key ∧ p.2.1 = q.kat ∧ RelV q.val p.2.2 ∧ s.heap.IsTuple q.at_ #[.ref q.kat, p.2.2]) L prs)
    (h : ∀ q ∈ L, H q.kat = some (.tup (q.key.map kV))) : KT H (L.map fun q => (q.key, q.val)) prs := by
  induction r with
  | nil => exact .nil
  | @cons q p L prs e _ ih =>
    refine .cons ⟨e.1.symm, ?_, e.2.2.1⟩ (ih fun q' hq => h q' (List.mem_cons_of_mem _ hq))
    rw [e.2.1]
    exact h q List.mem_cons_self
theorem call_dictPT (hc : X.calm = true) (hu : X.A.units + 64 < cLine) : CallR X (.type "dict") rDictPT := by
  intro pins s σ H xs us Q I r h
  obtain ⟨a, L, rfl, ha, hL, nd, q⟩ := h
  obtain ⟨u, rfl, rx⟩ := vals1 r
  cases rx
  obtain ⟨hz, its, n, rv, ea⟩ := I.hok a _ ha
  have eits : its = L.map fun q => Value.ref q.at_ := by
    have e : (L.map fun q => V.ref q.at_) = (L.map fun q => q.at_).map V.ref := by rw [List.map_map]; rfl
    rw [e] at rv
    have := L2.refs_at rv
    rw [this, List.map_map]; rfl
  obtain ⟨prs, pr⟩ := pairs_told I L hL
  have len := paired_len pr
  have keys := paired_keys pr
  have P := PairArg.list (prog := X.prog) (w := X.w) a its.toArray (fun j => (L[j]?.map fun q => q.at_).getD 0) (prs.map fun p => (Value.ref p.2.1, p.2.2))
  have Lsz : L.length ≤ sizeLine := by
    rw [List.length_map] at hz
    exact hz
  have key_in : ∀ p ∈ prs, ∃ q ∈ L, p.1 = q.key ∧ p.2.1 = q.kat := fun p hp => by
    obtain ⟨i, hi⟩ := List.getElem?_of_mem hp
    obtain ⟨q, hq, e⟩ := paired_at pr hi
    exact ⟨q, List.mem_of_getElem? hq, e.1, e.2.1⟩
  have newA : H s.heap.objs.size = none := I.hok.fresh (Nat.le_refl _)
  refine call_dict_pairsH (knd := tupleKind (mixKind X.prog X.w)) (ps := prs) P (I.ok.hd hc) (by show _ < cLine; simp; omega) ⟨⟨_, n, ea, rfl, rfl, rfl⟩, ?_, fun j k v e => ?_⟩ ⟨by rw [List.length_map], fun i key v e => ?_⟩ (fun h' keep p hp => ?_) (by rw [List.length_map]; omega) fun h' tk D keep => ?_
  · rw [List.size_toArray, eits, List.length_map, List.length_map, len]
  · rw [List.getElem?_map] at e
    obtain ⟨p, hp, e⟩ := Option.map_eq_some_iff.mp e
    cases e
    obtain ⟨q, hq, e1, e2, e3, e4⟩ := paired_at pr hp
    have eq1 : (L[j]?.map fun q => q.at_).getD 0 = q.at_ := by rw [hq]; rfl
    refine ⟨?_, .inl ?_⟩
    · show its.toArray[j]? = some (.ref ((L[j]?.map fun q => q.at_).getD 0))
      rw [eq1, eits]
      simp [hq]
    · show s.heap.IsTuple ((L[j]?.map fun q => q.at_).getD 0) _
      rw [eq1]
      show s.heap.IsTuple q.at_ #[.ref p.2.1, p.2.2]
      rw [e2]
      exact e4
  · have e : (prs.map fun p => (Value.ref p.2.1, p.2.2))[i]? = some (key, v) := e
    rw [List.getElem?_map] at e
    obtain ⟨p, hp, e⟩ := Option.map_eq_some_iff.mp e
    cases e
    exact ⟨p.1, p.2.1, hp, rfl⟩
  · obtain ⟨q, hq, e1, e2⟩ := key_in p hp
    have k0 := key_of I.hok (hL q hq).2
    rw [e1, e2]
    obtain ⟨o, items, m, ho, rest⟩ := k0
    exact ⟨o, items, m, keep _ _ (Nat.ne_of_lt (Heap.lt_size ho)) (by simp) ho, rest⟩
  · have e0 : storedAllH [] prs = prs := storedAllH_nil_of_nodup prs (by rw [keys]; exact nd)
    rw [e0] at D
    obtain ⟨o, es, ep, d1, d2, d3, d4, _, d6⟩ := D
    have hm : (s.heap.objs.size == sysModules) = false := beq_eq_false_iff_ne.mpr (Nat.ne_of_gt I.big)
    have kt : KT (upd H s.heap.objs.size (.dT (L.map fun q => (q.key, q.val)))) (L.map fun q => (q.key, q.val)) prs := paired_kt pr fun q hq => by
      rw [upd_ne (ne_of_none (hL q hq).2 newA)]
      exact (hL q hq).2
    exact ⟨.ref s.heap.objs.size, _, I.laid (o := .dT (L.map fun q => (q.key, q.val))) (t' := tk) (fun b o e => keep b o (by simp) e) (Nat.le_refl _) ⟨by rw [List.length_map]; exact Lsz, hm, prs, kt, o, es, ep, d1, d2, d3, d4, d6⟩, rfl, q.go newA⟩
end
end GA
/-! ## GK -/
namespace GA
open PySem PySem.Spec PyProof.Rows L2
section
variable {X : Cx}
/-- len(set(t)), t a tuple of unlike ints -/
def tLenSetTI (K : PySem.W.Frag) (ta : TE) : TE := fun σ H Q => ta σ H fun x H1 => ∃ (l : Addr) (ns : List Int), x = V.ref l ∧ SqT K H1 l (ns.map V.int) ∧ ns.length ≤ 1000 ∧ ns.Nodup ∧ Q (.int ns.length) H1
theorem pe_lenSetTI {a : Expr} {ta : TE} {p p2 q pos : Pos} (hc : X.calm = true) (hg : Gl X "len") (hm : X.mg "len" = none) (hg2 : Gl X "set") (hm2 : X.mg "set" = none) (ha : PE X a ta)
    (na : starEach [a] X.env = (false, eval a X.env) :: starEach [] X.env := by rfl) : PE X (.Call (.Name "len" p) [.Call (.Name "set" p2) [a] [] q] [] pos) (tLenSetTI X.K ta) := by
  refine ⟨fun pins s σ H Q I h => Call_ (ld_blt I hg hm PySem.boot_len (PyProof.Rows.callWith_builtin1 (PyProof.Rows.args_cons ?_ rfl) rfl rfl))⟩
  refine Call_ (ld_blt I hg2 hm2 PyProof.Rows.boot_set (PyProof.Rows.callWith_type1 (PyProof.Rows.args_cons (thn (ha.run pins s σ H _ I h) fun v s1 ⟨x, H1, I1, r1, l, ns, ex, hq, h1, hnd, q1⟩ => PyProof.Rows.args_nil ?_) na) na rfl))
  subst ex
  cases r1
  obtain ⟨its, r, pt, _⟩ := I1.tuple hq
  refine call_set_tupI ns (I1.ok.hd hc) pt (ints_of_vals r) (by unfold scanBound; omega) fun h' tk c R _ keep => PyProof.Rows.args_nil ?_
  obtain ⟨o, es, ep, t, ho, hex, hd, _, nd, mem, hsz, hf, _⟩ := R
  have e : es.size = ns.length := by
    have pm : (es.toList.map keyOf).Perm ns := (List.perm_ext_iff_of_nodup nd hnd).mpr fun k => by rw [← mem]; simp
    have := pm.length_eq
    simpa using this
  have I2 : Inv X pins σ H1 { s1 with heap := h', toks := tk } := I1.kept keep
  exact call_len_set ho hex hd hf (by rw [e]; omega) ⟨.int ns.length, H1, I2.tok _, ⟨_, by rw [e]⟩, q1⟩
end
end GA
/-! ## GL -/
namespace GA
open PySem L2
/-! ### methods of tuples; tuples whose object is known -/
section
variable {X : Cx} {T : String} {name : Str} {id : String} {r : V → List V → Hp → VK → Prop} {o e : Expr} {es : List Expr} {apos cpos : Pos} {to : TE} {t : TA}
theorem k_bm (K : PySem.W.Frag) (pa : PlainAttrs T) (slot : Slot T name id) (hty : typeOf (.builtin id) = pure (.type "method_descriptor")) (hm : MtR X id r) (ho : PE X o to) (ha : PA X (e :: es) t) (hK : X.K = K := by rfl)
    (h1 : attributeBase o name X.env (eval o X.env) = eval o X.env := by rfl)
    (h2 : ((backTo cpos (starEach (e :: es) X.env)).all (fun x => !x.1) && (backToKw cpos (keywordEach [] X.env)).all (fun x => x.1.isSome) && decide ((e :: es).length + ([] : List Keyword).length + (if ([] : List Keyword).isEmpty then 0 else 1) < 30)) = true := by rfl)
    (h3 : (apos.endLine == cpos.line) = true := by rfl) (h4 : starEach (e :: es) X.env = (false, eval e X.env) :: starEach es X.env := by rfl) (h5 : (backTo cpos (starEach es X.env)).any (·.1) = false := by rfl) :
    PE X (.Call (.Attribute o name apos) (e :: es) [] cpos) (tBM K T r to t) := by
  subst hK
  exact pe_bm pa slot hty hm ho ha h1 h2 h3 h4 h5
/-- a tuple whose object is known: it has no names of its own -/
def FrzT (H : Hp) (p : Addr) (xs : List V) : Prop := ∃ ob : Obj, H p = some (.frz ob (.tup xs)) ∧ ob.dict = none
theorem FrzT.sq {K : PySem.W.Frag} {H : Hp} {p : Addr} {xs : List V} (h : FrzT H p xs) : SqT K H p xs := by
  obtain ⟨ob, h, _⟩ := h
  exact .inl (.inr ⟨ob, h⟩)
theorem FrzT.n {H H' : Hp} {p : Addr} {xs : List V} (h : FrzT H p xs) (g : G none H H') : FrzT H' p xs := by
  obtain ⟨ob, h, d⟩ := h
  exact ⟨ob, g.all _ _ h, d⟩
def tBMT (r : V → List V → Hp → VK → Prop) (to : TE) (t : TA) : TE := fun σ H Q => to σ H fun x H1 => (∃ p xs, x = .ref p ∧ FrzT H1 p xs) ∧ t σ H1 fun vs H2 => r x vs H2 Q
theorem w_bmt {r : V → List V → Hp → VK → Prop} {σ : L2.St} {H : Hp} {Q : VK} (q : to σ H fun x H1 => (∃ p xs, x = .ref p ∧ FrzT H1 p xs) ∧ t σ H1 fun vs H2 => r x vs H2 Q) : tBMT r to t σ H Q := q
theorem pe_bmT (pa : PlainAttrs "tuple") (slot : Slot "tuple" name id) (hty : typeOf (.builtin id) = pure (.type "method_descriptor")) (hm : MtR X id r) (ho : PE X o to) (ha : PA X (e :: es) t)
    (h1 : attributeBase o name X.env (eval o X.env) = eval o X.env := by rfl)
    (h2 : ((backTo cpos (starEach (e :: es) X.env)).all (fun x => !x.1) && (backToKw cpos (keywordEach [] X.env)).all (fun x => x.1.isSome) && decide ((e :: es).length + ([] : List Keyword).length + (if ([] : List Keyword).isEmpty then 0 else 1) < 30)) = true := by rfl)
    (h3 : (apos.endLine == cpos.line) = true := by rfl) (h4 : starEach (e :: es) X.env = (false, eval e X.env) :: starEach es X.env := by rfl) (h5 : (backTo cpos (starEach es X.env)).any (·.1) = false := by rfl) :
    PE X (.Call (.Attribute o name apos) (e :: es) [] cpos) (tBMT r to t) := by
  refine ⟨fun pins s σ H Q I h => ?_⟩
  refine wpAny_Call_method_late h1 h2 h3 rfl (thn (ho.run pins s σ H _ I h) fun v s1 ⟨x, H1, I1, r1, ⟨p, xs, ex, ob, hp, dn⟩, q1⟩ => ?_)
  subst ex
  cases r1
  obtain ⟨a1, _, its, _, o', a2, a3, _⟩ := I1.hok p _ hp
  obtain rfl : o' = ob := by
    rw [a1] at a2
    exact (Option.some.inj a2).symm
  refine ⟨"tuple", id, pa, slot, hty, ⟨o', a1, a3⟩, fun a e => by cases e; exact ⟨o', a1, dn⟩, ?_⟩
  have hA := ha.run cpos pins s1 σ H1 _ I1 q1
  rw [h4] at hA ⊢
  refine Calls.callWith_builtin (by show (false || (backTo cpos (starEach es X.env)).any (·.1)) = false; rw [h5] <;> rfl) (Calls.evalArgs_plain ?_)
  exact thn hA fun us s2 ⟨vs, H2, I2, r2, q2⟩ => hm pins s2 σ H2 (.ref p) vs (.ref p) us Q I2 rfl r2 q2
/-- tuple(a list): the new tuple's object is told -/
def rTupleF (K : PySem.W.Frag) : List V → Hp → VK → Prop := fun xs H Q => ∃ p ys, xs = [.ref p] ∧ SqL K H p ys ∧ ∀ l H2, H l = none → (∀ o, G o H H2) → FrzT H2 l ys → Q (.ref l) H2
theorem call_tupleF : CallR X (.type "tuple") (rTupleF X.K) := by
  intro pins s σ H xs us Q I r h
  obtain ⟨p, ys, rfl, hq, q⟩ := h
  obtain ⟨u, rfl, rx⟩ := vals1 r
  cases rx
  obtain ⟨its, r', pl, hz⟩ := I.list hq
  have hlen := r'.length
  refine call_tuple_list pl.isList (fun h' kp => ?_) (by simp only [List.size_toArray] <;> omega)
  have I1 : Inv X pins σ H { s with heap := h' } := I.kept (t' := s.toks) kp
  have new : H h'.objs.size = none := I1.hok.fresh (Nat.le_refl _)
  refine ⟨.ref h'.objs.size, _, I1.laid (o := .frz { cls := .type "tuple", data := .seq its.toArray } (.tup ys)) (t' := s.toks) (fun b o e => Heap.get?_push_of_some _ e) (Nat.le_refl _) ⟨Heap.get?_push_size _ rfl, hz, its, r', PyProof.Rows.IsTup.new _ _⟩, rfl, q _ _ new (fun _ => G.alloc new) ⟨_, upd_same, rfl⟩⟩
end
end GA
/-! ## GM -/
/-! tuples compared item by item, where an item's own == may run -/
namespace GQB
open PySem PySem.SeqAt GQ
open AutoSeq1 (wpAny_loadPart')
open MeetsSeq MeetsSeq2 MeetsSeq3 SeqRoads2
section
variable {prog : Program} {w : World} {A : Around} {R : Result → Shared → Prop}
theorem tuple_eqB (l b : Addr) (items items2 : Array Value) (n n2 : Nat) (dd dd2 : Option Addr) (sl sl2 : Array (Option Value)) (e : Nat → Bool) (I : Shared → Prop)
    (turn : ∀ i (h1 : i < items.size) (h2 : i < items2.size) s, I s → wpAny (model prog w) A.in1 (eqBool items[i] items2[i]) (fun r s' => r = e i ∧ I s') (fun e s' => R (.error e) s') s)
    (fin : ∀ s, I s → R (.ok (.ret (.bool ((List.range (min items.size items2.size)).all e && items.size == items2.size)))) s) {s : Shared} (hl1 : s.heap.get? l = some { cls := .type "tuple", dict := dd, data := .seq items n, slots := sl }) (hb1 : s.heap.get? b = some { cls := .type "tuple", dict := dd2, data := .seq items2 n2, slots := sl2 }) (h : I s) :
    wpAny (model prog w) A.in1 (Builtin.«tuple.__eq__» ⟨[.ref l, .ref b], []⟩) (FinOf prog w A R) (fun e s' => R (.error e) s') s := by
  have f2 := AutoSeq1.sub_tuple_tuple
  have hZ : (items.toList.zip items2.toList).length = min items.size items2.size := by simp
  have h0 := h
  obtain ⟨hp, g, d, tk, os⟩ := s
  wp_walk using wpAny_loadPart' hl1, wpAny_loadPart' hb1, wpAny_forIn_list _ (fun rest b s' => b.1 = none ∧ ∃ i, rest = (items.toList.zip items2.toList).drop i ∧ (∀ j, j < i → e j = true) ∧ I s') _
  case turn =>
    rintro ⟨y, x⟩ rest b s' ⟨hb', i, hz, hi, hI⟩
    have hlt : i < (items.toList.zip items2.toList).length := by
      rcases Nat.lt_or_ge i (items.toList.zip items2.toList).length with h' | h'
      · exact h'
      · rw [List.drop_of_length_le h'] at hz; cases hz
    have hm : i < min items.size items2.size := hZ ▸ hlt
    have h1 : i < items.size := Nat.lt_of_lt_of_le hm (Nat.min_le_left _ _)
    have h2 : i < items2.size := Nat.lt_of_lt_of_le hm (Nat.min_le_right _ _)
    rw [List.drop_eq_getElem_cons hlt] at hz
    injection hz with hyx hrest
    have hy : y = items[i] := by have := congrArg Prod.fst hyx; simpa using this
    have hx : x = items2[i] := by have := congrArg Prod.snd hyx; simpa using this
    subst hy hx
    refine wpAny_bind (wpAny_mono (turn i h1 h2 s' hI) (fun r s2 q2 => ?_) fun _ _ x => x)
    obtain ⟨hr, q2⟩ := q2
    subst hr
    cases hei : e i with
    | true =>
      wp_walk
      refine ⟨rfl, i + 1, hrest, fun j hj => ?_, q2⟩
      rcases Nat.lt_succ_iff_lt_or_eq.mp hj with z | z
      · exact hi j z
      · rw [z]; exact hei
    | false =>
      have al : (List.range (min items.size items2.size)).all e = false := by
        rw [Bool.eq_false_iff]
        intro z
        have := List.all_eq_true.mp z i (List.mem_range.mpr hm)
        rw [hei] at this; cases this
      have hR := fin s2 q2
      rw [al, Bool.false_and] at hR
      wp_walk
      simpa using hR
  case fin =>
    rintro ⟨b1, b2⟩ s' ⟨hb', i, hz, hi, hI⟩
    simp only at hb'
    subst hb'
    have hge : min items.size items2.size ≤ i := by
      rcases Nat.lt_or_ge i (items.toList.zip items2.toList).length with h' | h'
      · rw [List.drop_eq_getElem_cons h'] at hz; cases hz
      · exact hZ ▸ h'
    have al : (List.range (min items.size items2.size)).all e = true := List.all_eq_true.mpr fun j hj => hi j (Nat.lt_of_lt_of_le (List.mem_range.mp hj) hge)
    have hR := fin s' hI
    rw [al, Bool.true_and] at hR
    wp_walk
    simpa [Builtin.Tuple.tupleCompareSizes] using hR
  case h =>
    exact ⟨rfl, 0, rfl, (fun _ h => absurd h (Nat.not_lt_zero _)), h0⟩
end
section
variable {prog : Program} {w : World} {A : Around} {E : Value → Shared → Prop} {s : Shared}
theorem rc_tupB {l b : Addr} {items items2 : Array Value} {Q : Value → Shared → Prop} (hu : A.units < cLine) (e : Nat → Bool) (I : Shared → Prop)
    (hl : s.heap.IsTuple l items) (hb : s.heap.IsTuple b items2)
    (turn : ∀ i (h1 : i < items.size) (h2 : i < items2.size) s, I s → wpAny (model prog w) A.in1 (eqBool items[i] items2[i]) (fun r s' => r = e i ∧ I s') E s)
    (fin : ∀ s, I s → Q (.bool ((List.range (min items.size items2.size)).all e && items.size == items2.size)) s) (h : I s) : wpAny (model prog w) A (richCompare .Eq (.ref l) (.ref b)) Q E s := by
  obtain ⟨⟨cls, dd, data, sl⟩, ho, hc, n, hd⟩ := id hl
  obtain ⟨⟨cls2, dd2, data2, sl2⟩, ho2, hc2, n2, hd2⟩ := id hb
  simp only at hc hd hc2 hd2
  subst hc hd hc2 hd2
  refine wpAny_richCompare_same_room (op := .Eq) ⟨_, ho, rfl⟩ ⟨_, ho2, rfl⟩ F.slot_tuple_eq (call_here F.slot_tuple_eq ⟨_, ho, rfl⟩ F.entry_tuple_eq (F.args_tuple_eq_2 _ _) ?_) hu
  exact tuple_eqB (R := wants (fun v s' => v ≠ .notImplemented ∧ Q v s') E) l b items items2 n n2 dd dd2 sl sl2 e I turn (fun s' q => ⟨(fun x => nomatch x), fin s' q⟩) ho ho2 h
end
end GQB
/-! ## GN -/
namespace GA
open PySem PySem.Spec PyProof.Rows L2
/-! ### any thing, as far as it is looked at -/
inductive Tg where
  | non
  | bl (b : Bool)
  | int (i : Int)
  | str (s : Str)
  | tup (ts : List Tg)
  | oth
/-- an object that is neither a tuple nor flat: a list, a dict, an instance of the class at C -/
def Oth (C : Addr) (H : Hp) (a : Addr) : Prop := (∃ xs, H a = some (.lst xs)) ∨ (∃ kvs, H a = some (.dK kvs)) ∨ ∃ dx fs, H a = some (.ins C dx fs)
mutual
inductive Ab (C hd : Addr) (H : Hp) : V → Tg → Prop
  | non : Ab C hd H .non .non
  | bl (b : Bool) : Ab C hd H (.bl b) (.bl b)
  | int (i : Int) : Ab C hd H (.int i) (.int i)
  | str (x : Str) : Ab C hd H (.str x) (.str x)
  | tup {a : Addr} {xs : List V} {ts : List Tg} : Rd H a (.tup xs) → AbAll C hd H xs ts → Ab C hd H (.ref a) (.tup ts)
  | oth {a : Addr} : a ≠ hd → Oth C H a → Ab C hd H (.ref a) .oth
inductive AbAll (C hd : Addr) (H : Hp) : List V → List Tg → Prop
  | nil : AbAll C hd H [] []
  | cons {v : V} {vs : List V} {t : Tg} {ts : List Tg} : Ab C hd H v t → AbAll C hd H vs ts → AbAll C hd H (v :: vs) (t :: ts)
end
theorem Oth.k {C : Addr} {H H' : Hp} {a : Addr} (h : Oth C H a) (k : ∀ u, H a = some u → H' a = some u) : Oth C H' a := by
  rcases h with ⟨xs, h⟩ | ⟨kvs, h⟩ | ⟨dx, fs, h⟩
  · exact .inl ⟨xs, k _ h⟩
  · exact .inr (.inl ⟨kvs, k _ h⟩)
  · exact .inr (.inr ⟨dx, fs, k _ h⟩)
mutual
theorem Ab.k {C hd : Addr} {H H' : Hp} (t : Ts H H') (k : ∀ a u, a ≠ hd → H a = some u → H' a = some u) : ∀ (g : Tg) (v : V), Ab C hd H v g → Ab C hd H' v g
  | .non, _, h => by cases h; exact .non
  | .bl b, _, h => by cases h; exact .bl b
  | .int b, _, h => by cases h; exact .int b
  | .str b, _, h => by cases h; exact .str b
  | .oth, _, h => by
    cases h with
    | oth n o => exact .oth n (o.k fun u e => k _ u n e)
  | .tup ts, _, h => by
    cases h with
    | tup r a => exact .tup (t _ _ r) (AbAll.k t k ts _ a)
theorem AbAll.k {C hd : Addr} {H H' : Hp} (t : Ts H H') (k : ∀ a u, a ≠ hd → H a = some u → H' a = some u) : ∀ (gs : List Tg) (vs : List V), AbAll C hd H vs gs → AbAll C hd H' vs gs
  | [], _, h => by cases h; exact .nil
  | g :: gs, _, h => by
    cases h with
    | cons h1 h2 => exact .cons (Ab.k t k g _ h1) (AbAll.k t k gs _ h2)
end
/-- whatever may change is the hand alone -/
def OH (o : Option (Addr × Addr)) (hd : Addr) : Prop := ∀ p, o = some p → p.1 = hd
theorem OH.n {hd : Addr} : OH none hd := fun _ e => nomatch e
theorem OH.s {hd c : Addr} : OH (some (hd, c)) hd := fun _ e => by cases e; rfl
section
variable {C hd : Addr} {H H' : Hp} {o : Option (Addr × Addr)}
theorem Ab.g {v : V} {t : Tg} (h : Ab C hd H v t) (g : G o H H') (oh : OH o hd) : Ab C hd H' v t := h.k g.tups (fun a u n e => g.keep a u (fun p ep z => n (z.trans (oh p ep))) e) t v
theorem AbAll.g {vs : List V} {ts : List Tg} (h : AbAll C hd H vs ts) (g : G o H H') (oh : OH o hd) : AbAll C hd H' vs ts := h.k g.tups (fun a u n e => g.keep a u (fun p ep z => n (z.trans (oh p ep))) e) ts vs
theorem Ab.n {v : V} {t : Tg} (h : Ab C hd H v t) (g : G none H H') : Ab C hd H' v t := h.g g OH.n
theorem AbAll.n {vs : List V} {ts : List Tg} (h : AbAll C hd H vs ts) (g : G none H H') : AbAll C hd H' vs ts := h.g g OH.n
theorem AbAll.length : ∀ {vs : List V} {ts : List Tg}, AbAll C hd H vs ts → vs.length = ts.length
  | _, _, .nil => rfl
  | _, _, .cons _ t => by simp [AbAll.length t]
theorem AbAll.get : ∀ {vs : List V} {ts : List Tg} {i : Nat} {v : V}, AbAll C hd H vs ts → vs[i]? = some v → ∃ t, ts[i]? = some t ∧ Ab C hd H v t
  | _, _, _, _, .nil, e => by simp at e
  | _, _, 0, _, .cons h _, e => by simp at e; subst e; exact ⟨_, rfl, h⟩
  | _, _, i + 1, v, .cons _ t, e => by
    obtain ⟨d, h1, h2⟩ := AbAll.get (i := i) (v := v) t (by simpa using e)
    exact ⟨d, by simpa using h1, h2⟩
theorem AbAll.get' : ∀ {vs : List V} {ts : List Tg} {i : Nat} {t : Tg}, AbAll C hd H vs ts → ts[i]? = some t → ∃ v, vs[i]? = some v ∧ Ab C hd H v t
  | _, _, _, _, .nil, e => by simp at e
  | _, _, 0, _, .cons h _, e => by simp at e; subst e; exact ⟨_, rfl, h⟩
  | _, _, i + 1, v, .cons _ t, e => by
    obtain ⟨d, h1, h2⟩ := AbAll.get' (i := i) (t := v) t (by simpa using e)
    exact ⟨d, by simpa using h1, h2⟩
theorem AbAll.app : ∀ {vs ws : List V} {ts us : List Tg}, AbAll C hd H vs ts → AbAll C hd H ws us → AbAll C hd H (vs ++ ws) (ts ++ us)
  | _, _, _, _, .nil, h => h
  | _, _, _, _, .cons h t, h' => .cons h (AbAll.app t h')
theorem AbAll.take : ∀ {vs : List V} {ts : List Tg} (n : Nat), AbAll C hd H vs ts → AbAll C hd H (vs.take n) (ts.take n)
  | _, _, 0, _ => by simp; exact .nil
  | _, _, n + 1, .nil => by simp; exact .nil
  | _, _, n + 1, .cons h t => by simp; exact .cons h (AbAll.take n t)
theorem AbAll.drop : ∀ {vs : List V} {ts : List Tg} (n : Nat), AbAll C hd H vs ts → AbAll C hd H (vs.drop n) (ts.drop n)
  | _, _, 0, h => h
  | _, _, n + 1, .nil => by simp; exact .nil
  | _, _, n + 1, .cons h t => by simp; exact AbAll.drop n t
theorem rd_one {a : Addr} {xs ys : List V} (h : Rd H a (.tup xs)) (h' : Rd H a (.tup ys)) : xs = ys := by
  rcases h with h | ⟨o, h⟩ <;> rcases h' with h' | ⟨o', h'⟩ <;> rw [h] at h' <;> cases h' <;> rfl
theorem rd_oth {a : Addr} {xs : List V} (h : Rd H a (.tup xs)) (h' : Oth C H a) : False := by
  rcases h with h | ⟨o, h⟩ <;> rcases h' with ⟨_, h'⟩ | ⟨_, h'⟩ | ⟨_, _, h'⟩ <;> rw [h] at h' <;> cases h'
mutual
theorem Ab.one : ∀ (g : Tg) (v : V) (g' : Tg), Ab C hd H v g → Ab C hd H v g' → g = g'
  | .non, _, _, h, h' => by cases h; cases h'; rfl
  | .bl b, _, _, h, h' => by cases h; cases h'; rfl
  | .int b, _, _, h, h' => by cases h; cases h'; rfl
  | .str b, _, _, h, h' => by cases h; cases h'; rfl
  | .oth, _, _, h, h' => by
    cases h with
    | oth n o =>
      cases h' with
      | oth _ _ => rfl
      | tup r _ => exact (rd_oth r o).elim
  | .tup ts, _, _, h, h' => by
    cases h with
    | tup r a =>
      cases h' with
      | oth _ o => exact (rd_oth r o).elim
      | tup r' a' =>
        obtain rfl := rd_one r r'
        rw [AbAll.one ts _ _ a a']
theorem AbAll.one : ∀ (gs : List Tg) (vs : List V) (gs' : List Tg), AbAll C hd H vs gs → AbAll C hd H vs gs' → gs = gs'
  | [], _, _, h, h' => by cases h; cases h'; rfl
  | g :: gs, _, _, h, h' => by
    cases h with
    | cons h1 h2 =>
      cases h' with
      | cons h1' h2' => rw [Ab.one g _ _ h1 h1', AbAll.one gs _ _ h2 h2']
end
end
/-! ### isinstance of them -/
structure InsK (K : PySem.W.Frag) (C : Addr) : Prop where
  ic : C8.InsC K C
  int : PySem.W.kitOne K (.ref C) (.type "int") = some false
  bool : PySem.W.kitOne K (.ref C) (.type "bool") = some false
  tuple : PySem.W.kitOne K (.ref C) (.type "tuple") = some false
  str : PySem.W.kitOne K (.ref C) (.type "str") = some false
def isT : String → Tg → Bool
  | "int", .int _ => true
  | "int", .bl _ => true
  | "bool", .bl _ => true
  | "str", .str _ => true
  | "tuple", .tup _ => true
  | _, _ => false
theorem ab_isi {K : PySem.W.Frag} {C hd : Addr} {H : Hp} {v : V} {t : Tg} {n : String} {Q : VK} (I : InsK K C) (h : Ab C hd H v t) (hn : n = "int" ∨ n = "bool" ∨ n = "str" ∨ n = "tuple") (q : Q (.bl (isT n t)) H) : rIsi K [v, .ty n] H Q := by
  have mk : ∀ (ty : Value) (b : Bool), TyX K H v ty → PySem.W.kitOne K ty (.type n) = some b → isT n t = b → rIsi K [v, .ty n] H Q := fun ty b h1 h2 h3 => ⟨v, .ty n, ty, .type n, b, rfl, .ty n, h1, h2, h3 ▸ q⟩
  cases h with
  | non => exact mk _ (isT n .non) (.base .non) (by rcases hn with rfl | rfl | rfl | rfl <;> exact kit_ty (by decide +kernel)) rfl
  | bl b => exact mk _ (isT n (.bl b)) (.base (.bl b)) (by rcases hn with rfl | rfl | rfl | rfl <;> exact kit_ty (by cases b <;> decide +kernel)) rfl
  | int i => exact mk _ (isT n (.int 0)) (.base (.int i)) (by rcases hn with rfl | rfl | rfl | rfl <;> exact kit_ty (by decide +kernel)) (by rcases hn with rfl | rfl | rfl | rfl <;> rfl)
  | str x => exact mk _ (isT n (.str "")) (.base (.str x)) (by rcases hn with rfl | rfl | rfl | rfl <;> exact kit_ty (by decide +kernel)) (by rcases hn with rfl | rfl | rfl | rfl <;> rfl)
  | @tup a xs ts r al =>
    have ty : TyX K H (.ref a) (.type "tuple") := by
      rcases r with r | ⟨o, r⟩
      · exact .base (.tup r)
      · exact .fTuple r
    exact mk _ (isT n (.tup [])) ty (by rcases hn with rfl | rfl | rfl | rfl <;> exact kit_ty (by decide +kernel)) (by rcases hn with rfl | rfl | rfl | rfl <;> rfl)
  | @oth a ne o =>
    rcases o with ⟨xs, o⟩ | ⟨kvs, o⟩ | ⟨dx, fs, o⟩
    · exact mk _ (isT n .oth) (.base (.lst o)) (by rcases hn with rfl | rfl | rfl | rfl <;> exact kit_ty (by decide +kernel)) rfl
    · exact mk _ (isT n .oth) (.base (.dK o)) (by rcases hn with rfl | rfl | rfl | rfl <;> exact kit_ty (by decide +kernel)) rfl
    · refine mk _ (isT n .oth) (.base (.ins o I.ic.cl I.ic.ha I.ic.hn I.ic.htk I.ic.hm)) ?_ rfl
      rcases hn with rfl | rfl | rfl | rfl
      · exact I.int
      · exact I.bool
      · exact I.str
      · exact I.tuple
/-! ### t >= u, tuples of ints -/
def rGeT (K : PySem.W.Frag) : R2 := fun x y H Q => ∃ (a b : Addr) (ns ms : List Int), x = .ref a ∧ y = .ref b ∧ SqT K H a (ns.map V.int) ∧ SqT K H b (ms.map V.int) ∧
  Q (.bl (Ob.lexAt (fun j => decide (ns.getD j 0 = ms.getD j 0)) (fun j => decide (ms.getD j 0 ≤ ns.getD j 0)) (decide (ns.length ≥ ms.length)) 0 (min ns.length ms.length))) H
theorem op_geT {X : Cx} (hu : X.A.units < cLine) : OpR X (compareOp .GtE) (rGeT X.K) := by
  intro pins s σ H x y v u Q I rx ry h
  obtain ⟨a, b, ns, ms, rfl, rfl, ha, hb, q⟩ := h
  cases rx
  cases ry
  obtain ⟨its, r1, p1, _⟩ := I.tuple ha
  obtain ⟨its2, r2, p2, _⟩ := I.tuple hb
  have i1 : IntsAre its ns := Vals.ints r1
  have i2 : IntsAre its2 ms := Vals.ints r2
  have e1 : its.toArray.size = ns.length := by rw [List.size_toArray]; exact i1.length
  have e2 : its2.toArray.size = ms.length := by rw [List.size_toArray]; exact i2.length
  have at1 : ∀ j (h1 : j < its.toArray.size), ∃ t, its.toArray[j] = .int (ns.getD j 0) t := fun j h1 => PyProof.Rows.IntsAre.int_at i1 _ _ (by simp at h1; simp [h1])
  have at2 : ∀ j (h1 : j < its2.toArray.size), ∃ t, its2.toArray[j] = .int (ms.getD j 0) t := fun j h1 => PyProof.Rows.IntsAre.int_at i2 _ _ (by simp at h1; simp [h1])
  have R := Ob.RcOp.tuples_ge (A := X.A) (s := s) (e := fun j => decide (ns.getD j 0 = ms.getD j 0)) (r := fun j => decide (ms.getD j 0 ≤ ns.getD j 0)) p1 p2 hu (fun j h1 h2 => by
    obtain ⟨t, et⟩ := at1 j h1
    obtain ⟨t', et'⟩ := at2 j h2
    rw [et, et']
    have z : (ns.getD j 0 == ms.getD j 0) = decide (ns.getD j 0 = ms.getD j 0) := by
      by_cases q : ns.getD j 0 = ms.getD j 0
      · rw [decide_eq_true q]; exact beq_iff_eq.mpr q
      · rw [decide_eq_false q]; exact beq_eq_false_iff_ne.mpr q
    rw [← z]
    exact SeqAt.EqAt.int_int _ _ _ _) (fun j h1 h2 _ => by
    obtain ⟨t, et⟩ := at1 j h1
    obtain ⟨t', et'⟩ := at2 j h2
    rw [et, et']
    exact Ob.RcOp.ge_int _ _ _ _)
  rw [e1, e2] at R
  exact R X.prog X.w X.xe _ ⟨.bl _, H, I, rfl, q⟩
/-! ### tuples told by what they hold -/
def rCatR : R2 := fun x y H Q => ∃ a b xs ys, x = .ref a ∧ y = .ref b ∧ Rd H a (.tup xs) ∧ Rd H b (.tup ys) ∧ xs.length + ys.length ≤ 100000 ∧ ∀ p H2, (∀ o, G o H H2) → Rd H2 p (.tup (xs ++ ys)) → Q (.ref p) H2
theorem op_catR {X : Cx} : OpR X (binaryOp .Add) rCatR := OpR.weak op_catA fun x y H Q h => by
  obtain ⟨a, b, xs, ys, e1, e2, h1, h2, hz, q⟩ := h
  refine ⟨a, b, xs, ys, e1, e2, .inl h1, .inl h2, sz hz, fun e => ?_, fun _ e => ?_, fun _ _ p hp => ?_⟩
  · subst e; exact q b H (fun _ => G.refl) h2
  · subst e; exact q a H (fun _ => G.refl) (by rw [List.append_nil]; exact h1)
  · exact q p _ (fun _ => G.alloc hp) (.inl upd_same)
def rSlR : V → Option Int → Option Int → Hp → VK → Prop := fun x lo hi H Q => ∃ a xs, x = .ref a ∧ Rd H a (.tup xs) ∧ ∀ p H2, (∀ o, G o H H2) → Rd H2 p (.tup (cutV xs lo hi)) → Q (.ref p) H2
theorem sl_tupR {X : Cx} : SlR X rSlR := SlR.weak sl_tupA fun x lo hi H Q ⟨a, xs, e, h, q⟩ => ⟨a, xs, e, .inl h, fun w => q a H (fun _ => G.refl) (by
    have c : cutV xs lo hi = xs := by
      unfold cutV
      rw [w.1, w.2, List.drop_zero, Nat.sub_zero, List.take_length]
    rw [c]; exact h), fun _ p hp => q p _ (fun _ => G.alloc hp) (.inl upd_same)⟩
end GA
/-! ## GO -/
namespace GA
open PySem PySem.Spec PyProof.Rows L2
/-! ### what the head tells of a class -/
theorem kit_mro {K : PySem.W.Frag} {C : Addr} {n : String} {b : Bool} (h : PySem.W.mroIn K C (.type n) = some b) (hm : PySem.W.kitMeta n = true) : PySem.W.kitOne K (.ref C) (.type n) = some b := by
  unfold PySem.W.kitOne
  have e : ((Value.ref C : Value) == .type n) = false := rfl
  rw [e, if_neg Bool.false_ne_true]
  show (if PySem.W.kitMeta n = true then PySem.W.subIn K (.ref C) (.type n) else none) = some b
  rw [if_pos hm]
  exact h
theorem InsK.of {K : PySem.W.Frag} {C : Addr} (ic : C8.InsC K C) (hi : PySem.W.mroIn K C (.type "int") = some false) (hb : PySem.W.mroIn K C (.type "bool") = some false) (ht : PySem.W.mroIn K C (.type "tuple") = some false) (hs : PySem.W.mroIn K C (.type "str") = some false) : InsK K C :=
  ⟨ic, kit_mro hi (by decide +kernel), kit_mro hb (by decide +kernel), kit_mro ht (by decide +kernel), kit_mro hs (by decide +kernel)⟩
theorem cls_some {K : PySem.W.Frag} {C : Addr} {b : Value} {r : Bool} (h : PySem.W.mroIn K C b = some r) : (PySem.W.clsIn K C).isSome = true := by
  unfold PySem.W.mroIn at h
  cases e : PySem.W.clsIn K C with
  | none => rw [e] at h; cases h
  | some _ => rfl
theorem kit_own {K : PySem.W.Frag} {C : Addr} {T : String} {l : List Value} (hc : (PySem.W.clsIn K C).isSome = true) (hty : PySem.W.typeIn K (.ref C) = some (.type "type")) (hf : fastBuiltinMro T = some l) (hl : l.contains (.ref C) = false) : PySem.W.kitOne K (.type T) (.ref C) = some false := by
  unfold PySem.W.kitOne
  have e : ((Value.type T : Value) == .ref C) = false := rfl
  rw [e, if_neg Bool.false_ne_true]
  show (if ((PySem.W.clsIn K C).isSome && PySem.W.typeIn K (.ref C) == some (.type "type")) = true then PySem.W.subIn K (.type T) (.ref C) else none) = some false
  have z : (PySem.W.typeIn K (.ref C) == some (.type "type")) = true := by rw [hty]; exact beq_self_eq_true _
  rw [hc, z, Bool.and_self, if_pos rfl]
  show (fastBuiltinMro T).map (·.contains (.ref C)) = some false
  rw [hf, Option.map_some, hl]
theorem not_first {K : PySem.W.Frag} {C : Addr} {T : String} {l : List Value} (hf : fastBuiltinMro T = some l) (hl : l.contains (.ref C) = false) : PySem.W.notFirst K C (.type T) = true := by
  unfold PySem.W.notFirst
  have e : PySem.W.subIn K (.type T) (.ref C) = some false := by
    show (fastBuiltinMro T).map (·.contains (.ref C)) = some false
    rw [hf, Option.map_some, hl]
  rw [e]; exact Bool.or_true _
theorem fb_tuple : fastBuiltinMro "tuple" = some [.type "tuple", .type "object"] := by decide +kernel
theorem fb_int : fastBuiltinMro "int" = some [.type "int", .type "object"] := by decide +kernel
/-! ### x == y by x's own == -/
section
variable {X : Cx} {n : Nat} {CX : CXT} {C f : Addr} {fd : FuncData} {ps : List Str} {sp : Sp} {E : XK}
theorem rc_own (F : FnOk X.prog X.w X.K X.mg X.base CX n f fd ps sp) (hs : PySem.W.findIn X.K (.ref C) "__eq__" = some (some (.ref f))) (hf : PySem.W.isFn X.K (.ref f) = true) (hb : Binds X.K fd ps []) (hx : Passes CX X E)
    {A : Around} {pins : List (Addr × Obj)} {s : Shared} {σ : L2.St} {H : Hp} {a dx : Addr} {fs : List (Str × V)} {y : V} {v t : Value} {Q : Bool → Hp → Prop}
    (sb : Sub X n A) (I : Inv X pins σ H s) (ha : H a = some (.ins C dx fs)) (ry : RelV y v) (ty : TyX X.K H y t) (nf : PySem.W.notFirst X.K C t = true) (hsp : sp [.ref a, y] H (fun z H' => ∃ b, z = .bl b ∧ Q b H') E) :
    wpAny (model X.prog X.w) A (richCompare .Eq (.ref a) v) (fun r s' => ∃ b H', r = .bool b ∧ Inv X pins σ H' s' ∧ Q b H') X.xe s := by
  obtain ⟨mA, J, _⟩ := ins_get I.hok ha
  obtain ⟨od, J, _⟩ := J.look
  obtain ⟨P, Z, p, _⟩ := kit_of I ry ty
  obtain ⟨m, hF⟩ := I.fr
  refine PySem.W.cmp_K (op := .Eq) (tb := t) sb.room.units0 hF I.ok.mod.kin J (Z.ty _ _ I.kIn p) nf hs hf ?_
  have e0 : Env0 X.prog X.w X.K X.mg X.base A X.stack s H := by
    have e := I.env0
    exact ⟨by rw [sb.fr]; exact e.frames, e.mod, e.bs, e.bsz, e.funs, e.frf, e.hok, e.bare⟩
  have hl := F.len _ _ _ _ hsp
  have r2 : Vals [V.ref a, y] [Value.ref a, v] := .cons rfl (.cons ry .nil)
  refine wpAny_call (codeAny_mono (F.run A X.stack s H ⟨[.ref a, v], []⟩ [.ref a, v] [.ref a, y] _ E sb.room e0 (by
    have := hb s [.ref a, v] I.kIn (by simpa using hl)
    simpa using this) r2 hsp) fun r s' hq => ?_)
  cases r with
  | error e => exact hx pins σ H s e s' I hq
  | ok fl =>
    cases fl with
    | ret w =>
      obtain ⟨z, H', I', rz, b, ez, q⟩ := I.after hq
      subst ez
      cases rz
      exact ⟨b, H', rfl, I', q⟩
    | next => exact False.elim hq
    | brk => exact False.elim hq
    | cont => exact False.elim hq
/-- x == y, x an instance of the class at C -/
def rEqI (K : PySem.W.Frag) (C : Addr) (sp : Sp) (E : XK) : R2 := fun x y H Q => ∃ a dx fs t, x = .ref a ∧ H a = some (.ins C dx fs) ∧ TyX K H y t ∧ PySem.W.notFirst K C t = true ∧ sp [.ref a, y] H (fun z H' => ∃ b, z = .bl b ∧ Q (.bl b) H') E
theorem op_eqI (F : FnOk X.prog X.w X.K X.mg X.base CX n f fd ps sp) (hs : PySem.W.findIn X.K (.ref C) "__eq__" = some (some (.ref f))) (hf : PySem.W.isFn X.K (.ref f) = true) (hb : Binds X.K fd ps []) (hx : Passes CX X E) (hr : Room n X.A) : OpR X (compareOp .Eq) (rEqI X.K C sp E) := by
  intro pins s σ H x y u v Q I rx ry h
  obtain ⟨a, dx, fs, t, rfl, ha, ty, nf, hsp⟩ := h
  cases rx
  show wpAny (model X.prog X.w) X.A (richCompare .Eq (.ref a) v) (EP X pins σ Q) X.xe s
  refine wpAny_mono (rc_own F hs hf hb hx (Q := fun b H' => Q (.bl b) H') ⟨hr, rfl⟩ I ha ry ty nf hsp) (fun r s' z => ?_) fun _ _ x => x
  obtain ⟨b, H', rfl, I', q⟩ := z
  exact ⟨.bl b, H', I', rfl, q⟩
/-! ### any thing == data of ints and tuples -/
mutual
def eqT : Tg → Tg → Bool
  | .tup ts, .tup us => eqTs ts us
  | .int i, .int j => decide (i = j)
  | .bl b, .int j => decide ((if b then 1 else 0) = j)
  | _, _ => false
def eqTs : List Tg → List Tg → Bool
  | [], [] => true
  | t :: ts, u :: us => eqT t u && eqTs ts us
  | _, _ => false
end
/-- what only ints and tuples make up -/
inductive Pl : Nat → Tg → Prop
  | int {d : Nat} (i : Int) : Pl d (.int i)
  | tup {d : Nat} {us : List Tg} : (∀ u ∈ us, Pl d u) → Pl (d + 1) (.tup us)
mutual
theorem eqT_self : ∀ (d : Nat) (t : Tg), Pl d t → eqT t t = true
  | _, .int i, _ => by simp [eqT]
  | _, .tup ts, .tup h => by rw [eqT]; exact eqTs_self _ ts h
theorem eqTs_self : ∀ (d : Nat) (ts : List Tg), (∀ u ∈ ts, Pl d u) → eqTs ts ts = true
  | _, [], _ => rfl
  | d, t :: ts, h => by rw [eqTs, eqT_self d t (h t List.mem_cons_self), eqTs_self d ts fun u hu => h u (List.mem_cons_of_mem _ hu)]; rfl
end
theorem eqTs_all : ∀ (ts us : List Tg), eqTs ts us = ((List.range (min ts.length us.length)).all (fun i => eqT (ts.getD i .non) (us.getD i .non)) && ts.length == us.length)
  | [], [] => rfl
  | [], _ :: _ => by simp [eqTs]
  | _ :: _, [] => by simp [eqTs]
  | t :: ts, u :: us => by
    rw [eqTs, eqTs_all ts us]
    simp only [List.length_cons, Nat.succ_min_succ, List.range_succ_eq_map, List.all_cons, List.getD_cons_zero, List.all_map]
    have e : (ts.length + 1 == us.length + 1) = (ts.length == us.length) := by
      by_cases h : ts.length = us.length
      · rw [h]; simp
      · have h' : ¬ ts.length + 1 = us.length + 1 := by omega
        rw [beq_eq_false_iff_ne.mpr h, beq_eq_false_iff_ne.mpr h']
    rw [e, Bool.and_assoc]
    congr 2
/-- what an instance's own == says of what is none of its class -/
def spNe (C : Addr) : Sp := fun vs H Q _ => ∃ a y, vs = [.ref a, y] ∧ (∃ dx fs, H a = some (.ins C dx fs)) ∧ ((∃ j, y = .int j) ∨ ∃ b ys, y = .ref b ∧ Rd H b (.tup ys)) ∧ ∀ H', G none H H' → Q (.bl false) H'
def EqB (X : Cx) (n : Nat) (D : V → V → Bool → Hp → Prop) : Prop :=
  ∀ (A : Around) (pins : List (Addr × Obj)) (s : Shared) (σ : L2.St) (H : Hp) (x y : V) (u v : Value) (b : Bool), Sub X n A → Inv X pins σ H s → RelV x u → RelV y v → D x y b H →
    wpAny (model X.prog X.w) A (eqBool u v) (fun r s' => r = b ∧ ∃ H', Inv X pins σ H' s' ∧ G none H H') X.xe s
def DAb (C hd : Addr) (d : Nat) : V → V → Bool → Hp → Prop := fun x y b H => ∃ t u, Ab C hd H x t ∧ Ab C hd H y u ∧ Pl d u ∧ b = eqT t u
theorem rd_ty {K : PySem.W.Frag} {H : Hp} {b : Addr} {ys : List V} (r : Rd H b (.tup ys)) : TyX K H (.ref b) (.type "tuple") := by
  rcases r with r | ⟨o, r⟩
  · exact .base (.tup r)
  · exact .fTuple r
end
end GA
/-! ## GP -/
/-! a dict == an int, a tuple -/
namespace GQD
open PySem PySem.SeqAt
open AutoSeq1 (wpAny_loadPart')
open MeetsSeq
theorem dict_eq_declines_int (l : Addr) (es : Array DictEntry) (ep : Nat) (dd : Option Addr) (sl : Array (Option Value)) (b : Int) (u : Tok) :
    Meets (Builtin.«dict.__eq__» ⟨[.ref l, .int b u], []⟩) (fun _ R s => s.heap.get? l = some { cls := .type "dict", dict := dd, data := .dict es ep, slots := sl } ∧ R (.ok (.ret .notImplemented)) s) :=
  .of_wp fun prog w A R s h => by obtain ⟨hp, g, d, tk, os⟩ := s; obtain ⟨hl, h⟩ := h; have f1 := F.sub_int_dict; wp_walk using wpAny_loadPart' hl; exact ⟨_, rfl, h⟩
theorem int_eq_declines_dict (b : Int) (u : Tok) (l : Addr) (es : Array DictEntry) (ep : Nat) (dd : Option Addr) (sl : Array (Option Value)) :
    Meets (Builtin.«int.__eq__» ⟨[.int b u, .ref l], []⟩) (fun _ R s => s.heap.get? l = some { cls := .type "dict", dict := dd, data := .dict es ep, slots := sl } ∧ R (.ok (.ret .notImplemented)) s) :=
  .of_wp fun prog w A R s h => by obtain ⟨hp, g, d, tk, os⟩ := s; obtain ⟨hl, h⟩ := h; wp_walk using wpAny_loadPart' hl, wpAny_load hl; exact ⟨_, rfl, h⟩
theorem dict_eq_declines_tuple (l b : Addr) (es : Array DictEntry) (ep : Nat) (items2 : Array Value) (n2 : Nat) (dd dd2 : Option Addr) (sl sl2 : Array (Option Value)) :
    Meets (Builtin.«dict.__eq__» ⟨[.ref l, .ref b], []⟩) (fun _ R s => s.heap.get? l = some { cls := .type "dict", dict := dd, data := .dict es ep, slots := sl } ∧ s.heap.get? b = some { cls := .type "tuple", dict := dd2, data := .seq items2 n2, slots := sl2 } ∧ R (.ok (.ret .notImplemented)) s) :=
  .of_wp fun prog w A R s h => by obtain ⟨hp, g, d, tk, os⟩ := s; obtain ⟨hl, hb, h⟩ := h; have f1 := F.sub_tuple_dict; wp_walk using wpAny_loadPart' hl, wpAny_loadPart' hb; exact ⟨_, rfl, h⟩
theorem tuple_eq_declines_dict (l b : Addr) (es : Array DictEntry) (ep : Nat) (items : Array Value) (n : Nat) (dd dd2 : Option Addr) (sl sl2 : Array (Option Value)) :
    Meets (Builtin.«tuple.__eq__» ⟨[.ref l, .ref b], []⟩) (fun _ R s => s.heap.get? l = some { cls := .type "tuple", dict := dd, data := .seq items n, slots := sl } ∧ s.heap.get? b = some { cls := .type "dict", dict := dd2, data := .dict es ep, slots := sl2 } ∧ R (.ok (.ret .notImplemented)) s) :=
  .of_wp fun prog w A R s h => by obtain ⟨hp, g, d, tk, os⟩ := s; obtain ⟨hl, hb, h⟩ := h; have f1 := F.sub_dict_tuple; wp_walk using wpAny_loadPart' hl, wpAny_loadPart' hb; exact ⟨_, rfl, h⟩
section
variable {A : Around} {s : Shared} {l b : Addr} {es : Array DictEntry} {ep : Nat} {dd : Option Addr} {sl : Array (Option Value)} {items2 : Array Value}
theorem RcAt.dict_int (i : Int) (u : Tok) (ho : s.heap.get? l = some { cls := .type "dict", dict := dd, data := .dict es ep, slots := sl }) (hu : A.units < cLine) : RcAt A s (.ref l) (.int i u) false := fun prog w E Q h =>
  rc_eq_decline_or (k := false) ⟨_, ho, rfl⟩ (typeIs_int s i u) (by decide) F.sub_int_dict F.slot_dict_eq F.slot_int_eq_refl
    (fun _ hq => call_meets F.slot_dict_eq ⟨_, ho, rfl⟩ F.entry_dict_eq (F.args_dict_eq_2 _ _) (dict_eq_declines_int l es ep dd sl i u) ⟨ho, hq⟩)
    (fun _ hq => call_meets F.slot_int_eq_refl (typeIs_int s i u) F.entry_int_eq (F.args_int_eq_2 _ _) (int_eq_declines_dict i u l es ep dd sl) ⟨ho, hq⟩)
    (fun _ hq => wpAny_of_eq (rfl : isSame (.ref l) (.int i u) = pure false) hq) (.inr hu) h
theorem EqAt.dict_int (i : Int) (u : Tok) (ho : s.heap.get? l = some { cls := .type "dict", dict := dd, data := .dict es ep, slots := sl }) (hu : A.units < cLine) : EqAt A s (.ref l) (.int i u) false := fun prog w E Q h => by
  unfold eqBool
  refine wpAny_holding ?_
  refine wpAny_ite_split (fun hab => absurd (eq_of_beq hab) nofun) (fun _ => ?_)
  exact wpAny_bind (RcAt.dict_int i u ho hu prog w E _ (wpAny_truthy_bool h))
theorem RcAt.dict_tuple (ho : s.heap.get? l = some { cls := .type "dict", dict := dd, data := .dict es ep, slots := sl }) (hb : s.heap.IsTuple b items2) (hu : A.units < cLine) : RcAt A s (.ref l) (.ref b) false := fun prog w E Q h => by
  have hne : l ≠ b := fun e => by
    obtain ⟨o, h1, h2, _⟩ := hb
    rw [← e, ho] at h1
    cases h1
    exact absurd h2 (by simp)
  obtain ⟨⟨cls2, dd2, data2, sl2⟩, ho2, hc2, n2, hd2⟩ := id hb
  simp only at hc2 hd2
  subst hc2 hd2
  exact (rc_eq_decline_or (k := false) ⟨_, ho, rfl⟩ ⟨_, ho2, rfl⟩ (by decide) F.sub_tuple_dict F.slot_dict_eq F.slot_tuple_eq_refl
    (fun _ hq => call_meets F.slot_dict_eq ⟨_, ho, rfl⟩ F.entry_dict_eq (F.args_dict_eq_2 _ _) (dict_eq_declines_tuple l b es ep items2 n2 dd dd2 sl sl2) ⟨ho, ho2, hq⟩)
    (fun _ hq => call_meets F.slot_tuple_eq_refl ⟨_, ho2, rfl⟩ F.entry_tuple_eq (F.args_tuple_eq_2 _ _) (tuple_eq_declines_dict b l es ep items2 n2 dd2 dd sl2 sl) ⟨ho2, ho, hq⟩)
    (fun _ hq => wpAny_isSame_ref_other hne ho ho2 (by simp) hq) (.inr hu) h)
end
end GQD
namespace GA
open PySem PySem.Spec PyProof.Rows L2
section
variable {X : Cx} {n : Nat} {CX : CXT} {C f hd : Addr} {fd : FuncData} {ps : List Str} {sp : Sp} {E : XK}
theorem eqBool_int {prog : Program} {w : World} {A : Around} {a : Addr} {j : Int} {t : Tok} {Q : Bool → Shared → Prop} {E : Value → Shared → Prop} {s : Shared} (h : wpAny (model prog w) A (richCompare .Eq (.ref a) (.int j t)) (fun v s' => ∃ r, v = .bool r ∧ Q r s') E s) : wpAny (model prog w) A (eqBool (.ref a) (.int j t)) Q E s := by
  unfold eqBool
  refine wpAny_holding ?_
  refine wpAny_ite_split (fun hab => absurd (eq_of_beq hab) nofun) (fun _ => ?_)
  refine wpAny_bind (wpAny_mono h (fun v s' hv => ?_) fun _ _ x => x)
  obtain ⟨r, rfl, q⟩ := hv
  exact wpAny_truthy_bool q
theorem dk_obj {P : Program} {w : World} {H : Hp} {h : Heap} {a : Addr} {kvs : List (L2.Key × V)} (hok : HOk P w H h) (e : H a = some (.dK kvs)) : ∃ es ep dd sl, h.get? a = some { cls := .type "dict", dict := dd, data := .dict es ep, slots := sl } := by
  obtain ⟨_, _, vs, _, o, es, ep, h1, h2, h3, _⟩ := (show ObjOk P w H h a (.dK kvs) from hok a _ e)
  obtain ⟨c, d, dt, s⟩ := o
  have hc := h2.1
  simp only at hc h3
  subst hc h3
  exact ⟨es, ep, d, s, h1⟩
/-- what must be known of the own == -/
structure OwnEq (X : Cx) (n : Nat) (CX : CXT) (C f : Addr) (fd : FuncData) (ps : List Str) (sp : Sp) (E : XK) : Prop where
  F : FnOk X.prog X.w X.K X.mg X.base CX n f fd ps sp
  hs : PySem.W.findIn X.K (.ref C) "__eq__" = some (some (.ref f))
  hf : PySem.W.isFn X.K (.ref f) = true
  hb : Binds X.K fd ps []
  hx : Passes CX X E
  ne : ∀ vs H Q E', spNe C vs H Q E' → sp vs H Q E'
theorem nf_int {K : PySem.W.Frag} {C : Addr} : PySem.W.notFirst K C (.type "int") = true := not_first fb_int rfl
theorem nf_tuple {K : PySem.W.Frag} {C : Addr} : PySem.W.notFirst K C (.type "tuple") = true := not_first fb_tuple rfl
theorem rc_own_ne (O : OwnEq X n CX C f fd ps sp E) {A : Around} {pins : List (Addr × Obj)} {s : Shared} {σ : L2.St} {H : Hp} {a : Addr} {y : V} {v : Value} (sb : Sub X n A) (I : Inv X pins σ H s) (ha : ∃ dx fs, H a = some (.ins C dx fs)) (ry : RelV y v)
    (hy : (∃ j, y = .int j) ∨ ∃ b ys, y = .ref b ∧ Rd H b (.tup ys)) : wpAny (model X.prog X.w) A (richCompare .Eq (.ref a) v) (fun r s' => ∃ H', r = .bool false ∧ Inv X pins σ H' s' ∧ G none H H') X.xe s := by
  obtain ⟨dx, fs, ha⟩ := ha
  have hsp : sp [.ref a, y] H (fun z H' => ∃ b, z = .bl b ∧ (b = false ∧ G none H H')) E := O.ne _ _ _ _ ⟨a, y, rfl, ⟨dx, fs, ha⟩, hy, fun H' g => ⟨false, rfl, rfl, g⟩⟩
  have go : ∀ t, TyX X.K H y t → PySem.W.notFirst X.K C t = true → wpAny (model X.prog X.w) A (richCompare .Eq (.ref a) v) (fun r s' => ∃ H', r = .bool false ∧ Inv X pins σ H' s' ∧ G none H H') X.xe s := fun t ty nf =>
    wpAny_mono (rc_own O.F O.hs O.hf O.hb O.hx (Q := fun b H' => b = false ∧ G none H H') sb I ha ry ty nf hsp) (fun r s' ⟨b, H', e, I', eb, g⟩ => ⟨H', by rw [e, eb], I', g⟩) fun _ _ x => x
  rcases hy with ⟨j, rfl⟩ | ⟨b, ys, rfl, r⟩
  · exact go _ (.base (.int j)) nf_int
  · exact go _ (rd_ty r) nf_tuple
theorem eqB_ab (O : OwnEq X n CX C f fd ps sp E) : ∀ d, EqB X (n + d + 1) (DAb C hd d)
  | d => by
    intro A pins s σ H x y u v b sb I rx ry h
    obtain ⟨t, g, hx, hy, pl, rfl⟩ := h
    have pure_ : ∀ {r : Bool}, SeqAt.EqAt A s u v r → wpAny (model X.prog X.w) A (eqBool u v) (fun r' s' => r' = r ∧ ∃ H', Inv X pins σ H' s' ∧ G none H H') X.xe s := fun q => q X.prog X.w X.xe _ ⟨rfl, H, I, G.refl⟩
    have hu := sb.room.units0
    have sbn : Sub X n A := sb.mono (by omega)
    cases pl with
    | int j =>
      cases hy
      obtain ⟨tk, rfl⟩ := (show ∃ tk, v = Value.int j tk from ry)
      cases hx with
      | non => cases (show u = Value.none from rx); exact pure_ (SeqAt.EqAt.none_int j tk)
      | bl c =>
        cases (show u = Value.bool c from rx)
        have e : eqT (.bl c) (.int j) = ((if c then 1 else 0) == j) := by cases c <;> simp [eqT, Bool.beq_eq_decide_eq] <;> rfl
        rw [e]
        exact pure_ (SeqAt.EqAt.bool_int c j tk)
      | int i =>
        obtain ⟨tk2, rfl⟩ := (show ∃ tk, u = Value.int i tk from rx)
        have e : eqT (.int i) (.int j) = (i == j) := by
          rw [eqT]
          by_cases q : i = j
          · rw [decide_eq_true q]; exact (beq_iff_eq.mpr q).symm
          · rw [decide_eq_false q]; exact (beq_eq_false_iff_ne.mpr q).symm
        rw [e]
        exact pure_ (SeqAt.EqAt.int_int i tk2 j tk)
      | str x => obtain ⟨tk2, rfl⟩ := (show ∃ tk, u = Value.str x tk from rx); exact pure_ (SeqAt.EqAt.str_int x tk2 j tk)
      | @tup a xs ts r al =>
        cases (show u = Value.ref a from rx)
        obtain ⟨its, rv, p, _⟩ := I.tuple (.inl r)
        exact pure_ (SeqAt.EqAt.tuple_int j tk p hu)
      | @oth a ne o =>
        cases (show u = Value.ref a from rx)
        rcases o with ⟨xs, o⟩ | ⟨kvs, o⟩ | o
        · obtain ⟨its, rv, p, _⟩ := I.list (.inl (.inl o))
          exact pure_ (SeqAt.EqAt.list_int j tk p.isList hu)
        · obtain ⟨es, ep, dd, sl, e⟩ := dk_obj I.hok o
          exact pure_ (GQD.EqAt.dict_int j tk e hu)
        · refine eqBool_int (wpAny_mono (rc_own_ne O sbn I o ry (.inl ⟨j, rfl⟩)) (fun r s' ⟨H', e, I', g⟩ => ⟨false, e, rfl, H', I', g⟩) fun _ _ x => x)
    | @tup d' us hpl =>
      cases hy with
      | @tup b ys _ r2 al2 =>
        cases (show v = Value.ref b from ry)
        obtain ⟨its2, rv2, p2, _⟩ := I.tuple (.inl r2)
        cases hx with
        | non => cases (show u = Value.none from rx); exact pure_ (SeqAt.EqAt.none_tuple p2 hu)
        | bl c => cases (show u = Value.bool c from rx); exact pure_ (SeqAt.EqAt.bool_tuple c p2 hu)
        | int i => obtain ⟨tk2, rfl⟩ := (show ∃ tk, u = Value.int i tk from rx); exact pure_ (SeqAt.EqAt.int_tuple i tk2 p2 hu)
        | str x => obtain ⟨tk2, rfl⟩ := (show ∃ tk, u = Value.str x tk from rx); exact pure_ (SeqAt.EqAt.str_tuple x tk2 p2 hu)
        | @oth a ne o =>
          cases (show u = Value.ref a from rx)
          have hne : a ≠ b := fun e => rd_oth r2 (e ▸ o)
          rcases o with ⟨xs, o⟩ | ⟨kvs, o⟩ | o
          · obtain ⟨its, rv, p, _⟩ := I.list (.inl (.inl o))
            exact pure_ (SeqAt.EqAt.list_tuple p.isList p2 hu)
          · obtain ⟨es, ep, dd, sl, e⟩ := dk_obj I.hok o
            exact pure_ (SeqAt.EqAt.of_refs hne (GQD.RcAt.dict_tuple e p2 hu))
          · exact GQ.eqBool_refG hne (wpAny_mono (rc_own_ne O sbn I o ry (.inr ⟨b, ys, rfl, r2⟩)) (fun r s' ⟨H', e, I', g⟩ => ⟨false, e, rfl, H', I', g⟩) fun _ _ x => x)
        | @tup a xs ts r al =>
          cases (show u = Value.ref a from rx)
          obtain ⟨its, rv, p, _⟩ := I.tuple (.inl r)
          by_cases hab : a = b
          · subst hab
            obtain rfl := rd_one r r2
            obtain rfl := AbAll.one _ _ _ al al2
            rw [eqT_self (d' + 1) (.tup ts) (.tup hpl)]
            exact pure_ (SeqAt.EqAt.same _)
          · have l1 : its.toArray.size = ts.length := by rw [List.size_toArray, ← rv.length, al.length]
            have l2 : its2.toArray.size = us.length := by rw [List.size_toArray, ← rv2.length, al2.length]
            refine GQ.eqBool_refG hab (GQB.rc_tupB hu (fun i => eqT (ts.getD i .non) (us.getD i .non)) (fun s' => ∃ H', Inv X pins σ H' s' ∧ G none H H') p p2 (fun i h1 h2 s' ⟨H', I', g⟩ => ?_) (fun s' ⟨H', I', g⟩ => ⟨_, rfl, ?_, H', I', g⟩) ⟨H, I, G.refl⟩)
            · have h1' : i < its.length := by simpa using h1
              have h2' : i < its2.length := by simpa using h2
              have k1 : i < xs.length := by rw [rv.length]; exact h1'
              have k2 : i < ys.length := by rw [rv2.length]; exact h2'
              obtain ⟨u', hu', ru⟩ := rv.get (List.getElem?_eq_getElem k1)
              obtain ⟨v', hv', rw'⟩ := rv2.get (List.getElem?_eq_getElem k2)
              obtain ⟨t', ht', at_⟩ := al.get (List.getElem?_eq_getElem k1)
              obtain ⟨g', hg', ag⟩ := al2.get (List.getElem?_eq_getElem k2)
              rw [List.getElem?_eq_getElem h1'] at hu'
              rw [List.getElem?_eq_getElem h2'] at hv'
              have e1 : its.toArray[i] = u' := by simpa using Option.some.inj hu'
              have e2 : its2.toArray[i] = v' := by simpa using Option.some.inj hv'
              have e3 : ts.getD i .non = t' := by rw [List.getD_eq_getElem?_getD, ht']; rfl
              have e4 : us.getD i .non = g' := by rw [List.getD_eq_getElem?_getD, hg']; rfl
              rw [e1, e2, e3, e4]
              refine wpAny_mono (eqB_ab O d' A.in1 pins s' σ H' _ _ u' v' _ (sb.in1.mono (by omega)) I' ru rw' ⟨t', g', at_.n g, ag.n g, hpl g' (List.mem_of_getElem? hg'), rfl⟩) (fun r s2 ⟨e, H2, I2, g2⟩ => ⟨e, H2, I2, g.trans g2⟩) fun _ _ x => x
            · rw [l1, l2, eqT, eqTs_all]
end
end GA
/-! ## GQ1 -/
namespace GA
open PySem PySem.Spec PyProof.Rows L2
section
variable {X : Cx} {n : Nat} {CX : CXT} {C f hd : Addr} {fd : FuncData} {ps : List Str} {sp : Sp} {E : XK}
/-- any thing == a tuple of ints and tuples -/
def rEqAb (C hd : Addr) (d : Nat) : R2 := fun x y H Q => ∃ t us, Ab C hd H x t ∧ Ab C hd H y (.tup us) ∧ (∀ u ∈ us, Pl d u) ∧ ∀ H', G none H H' → Q (.bl (eqT t (.tup us))) H'
theorem op_eqAb (O : OwnEq X n CX C f fd ps sp E) (d : Nat) (hr : Room (n + d + 2) X.A) : OpR X (compareOp .Eq) (rEqAb C hd d) := by
  intro pins s σ H x y u v Q I rx ry h
  obtain ⟨t, us, hx, hy, hpl, q⟩ := h
  have sb : Sub X (n + d + 2) X.A := ⟨hr, rfl⟩
  have sbn : Sub X n X.A := sb.mono (by omega)
  have hu := sb.room.units0
  have pure_ : ∀ {r : Bool}, SeqAt.RcAt X.A s u v r → r = eqT t (.tup us) → wpAny (model X.prog X.w) X.A (richCompare .Eq u v) (EP X pins σ Q) X.xe s := fun k e => k X.prog X.w X.xe _ ⟨.bl _, H, I, rfl, e ▸ q H G.refl⟩
  show wpAny (model X.prog X.w) X.A (richCompare .Eq u v) (EP X pins σ Q) X.xe s
  cases hy with
  | @tup b ys _ r2 al2 =>
    cases (show v = Value.ref b from ry)
    obtain ⟨its2, rv2, p2, _⟩ := I.tuple (.inl r2)
    cases hx with
    | non => cases (show u = Value.none from rx); exact pure_ (SeqAt.RcAt.none_tuple p2 hu) rfl
    | bl c => cases (show u = Value.bool c from rx); exact pure_ (SeqAt.RcAt.bool_tuple c p2 hu) rfl
    | int i => obtain ⟨tk2, rfl⟩ := (show ∃ tk, u = Value.int i tk from rx); exact pure_ (SeqAt.RcAt.int_tuple i tk2 p2 hu) rfl
    | str x => obtain ⟨tk2, rfl⟩ := (show ∃ tk, u = Value.str x tk from rx); exact pure_ (SeqAt.RcAt.str_tuple x tk2 p2 hu) rfl
    | @oth a ne o =>
      cases (show u = Value.ref a from rx)
      rcases o with ⟨xs, o⟩ | ⟨kvs, o⟩ | o
      · obtain ⟨its, rv, p, _⟩ := I.list (.inl (.inl o))
        exact pure_ (SeqAt.RcAt.list_tuple p.isList p2 hu) rfl
      · obtain ⟨es, ep, dd, sl, e⟩ := dk_obj I.hok o
        exact pure_ (GQD.RcAt.dict_tuple e p2 hu) rfl
      · exact wpAny_mono (rc_own_ne O sbn I o ry (.inr ⟨b, ys, rfl, r2⟩)) (fun r s' ⟨H', e, I', g⟩ => ⟨.bl false, H', I', e, q H' g⟩) fun _ _ x => x
    | @tup a xs ts r al =>
      cases (show u = Value.ref a from rx)
      obtain ⟨its, rv, p, _⟩ := I.tuple (.inl r)
      have l1 : its.toArray.size = ts.length := by rw [List.size_toArray, ← rv.length, al.length]
      have l2 : its2.toArray.size = us.length := by rw [List.size_toArray, ← rv2.length, al2.length]
      refine GQB.rc_tupB hu (fun i => eqT (ts.getD i .non) (us.getD i .non)) (fun s' => ∃ H', Inv X pins σ H' s' ∧ G none H H') p p2 (fun i h1 h2 s' ⟨H', I', g⟩ => ?_) (fun s' ⟨H', I', g⟩ => ⟨.bl (eqT (.tup ts) (.tup us)), H', I', ?_, q H' g⟩) ⟨H, I, G.refl⟩
      · have h1' : i < its.length := by simpa using h1
        have h2' : i < its2.length := by simpa using h2
        have k1 : i < xs.length := by rw [rv.length]; exact h1'
        have k2 : i < ys.length := by rw [rv2.length]; exact h2'
        obtain ⟨u', hu', ru⟩ := rv.get (List.getElem?_eq_getElem k1)
        obtain ⟨v', hv', rw'⟩ := rv2.get (List.getElem?_eq_getElem k2)
        obtain ⟨t', ht', at_⟩ := al.get (List.getElem?_eq_getElem k1)
        obtain ⟨g', hg', ag⟩ := al2.get (List.getElem?_eq_getElem k2)
        rw [List.getElem?_eq_getElem h1'] at hu'
        rw [List.getElem?_eq_getElem h2'] at hv'
        have e1 : its.toArray[i] = u' := by simpa using Option.some.inj hu'
        have e2 : its2.toArray[i] = v' := by simpa using Option.some.inj hv'
        have e3 : ts.getD i .non = t' := by rw [List.getD_eq_getElem?_getD, ht']; rfl
        have e4 : us.getD i .non = g' := by rw [List.getD_eq_getElem?_getD, hg']; rfl
        rw [e1, e2, e3, e4]
        exact wpAny_mono (eqB_ab O d X.A.in1 pins s' σ H' _ _ u' v' _ (sb.in1.mono (by omega)) I' ru rw' ⟨t', g', at_.n g, ag.n g, hpl g' (List.mem_of_getElem? hg'), rfl⟩) (fun r s2 ⟨e, H2, I2, g2⟩ => ⟨e, H2, I2, g.trans g2⟩) fun _ _ x => x
      · show Value.bool _ = Value.bool _
        rw [l1, l2, eqT, eqTs_all]
end
/-! ### exceptions -/
theorem passE0 {P : Program} {w : World} {X : Cx} : Passes (L2.CX P w) X E0 := fun _ _ _ _ _ _ _ h => by
  obtain ⟨_, _, _, _, _, _, _, _, _, _, _, _, z⟩ := h
  exact z.elim
/-- isinstance(e, c), e the exception that the suite holds, its own names in the dict d -/
def rIsX (K : PySem.W.Frag) (D a : Addr) (d : Option Addr) : List V → Hp → VK → Prop := fun xs H Q => ∃ (c : V) (u : Value) (b : Bool) (dd : Addr) (fs : List (Str × V)), xs = [.ref a, c] ∧ ClsV c u ∧ d = some dd ∧ H dd = some (.xd fs) ∧ PySem.W.kitOne K (.ref D) u = some b ∧ Q (.bl b) H
theorem call_isX {X : Cx} {a D : Addr} {oe : Obj} {d : Option Addr} {cls : Value} {pn : List (Addr × Obj)} (C : ExcC X.K D) (hz : Zc cls d oe) (hc : cls = .ref D) (hf : ∃ vs, oe.data = .fields vs) : CallR (X.suite a ((a, oe) :: pn)) (.builtin "isinstance") (rIsX X.K D a d) := by
  intro pins s σ H xs us Q I r h
  obtain ⟨c, u, b, dd, fs, rfl, hcv, ed, ea, e, q⟩ := h
  obtain ⟨u1, u2, rfl, r1, r2⟩ := vals2 r
  cases (show u1 = Value.ref a from r1)
  have e2 := hcv.eq r2
  subst e2
  subst hc
  subst ed
  obtain ⟨hget, _⟩ := I.pin (a, oe) (List.mem_append.mpr (.inl List.mem_cons_self))
  obtain ⟨vs, hv⟩ := hf
  have hx : ObjOk X.prog X.w H s.heap dd (.xd fs) := I.hok dd _ ea
  obtain ⟨mA, hns, hr⟩ := hx
  obtain ⟨od, ho, hl⟩ := lookIn_ns hns
  have J : PySem.W.InstAt s.heap a oe D (some od) := ⟨hget, hz.1, by unfold PySem.W.notCls; rw [hv] <;> rfl, by rw [hz.2]; exact ho⟩
  have hcl : (PySem.W.clsIn X.K D).isSome = true := cls_some C.hm
  exact PySem.W.kia_one (PySem.W.kitx_exc hcl C.hg C.hk C.hs C.ha C.hn C.ht C.hm) I.kIn J e (fun z => nomatch z) fun tk => ⟨.bl b, H, I.kept (t' := tk) fun _ _ z => z, rfl, q⟩
end GA
/-! ## GR -/
namespace GA
open PySem PySem.Spec PyProof.Rows L2
/-! ### an instance whose own __init__ may raise, called where the slots are known -/
section
variable {X : Cx} {CX : CXT} {k : Nat} {f C : Addr} {fd : FuncData} {ps : List Str} {sp : Sp}
theorem run_makeS {E : XK} {pins : List (Addr × Obj)} {σ : L2.St} {H : Hp} {s : Shared} {Q : VK} {us : List Value} {vs : List V}
    (M : Mk X.K C f) (F : FnOk X.prog X.w X.K X.mg X.base CX k f fd ps sp) (hr : Room (k + 1) X.A) (hb : Binds X.K fd ps []) (hp : PassesAt CX X σ E) (I : Inv X pins σ H s) (r : Vals vs us)
    (h : ∀ x dx, H x = none → H dx = none → dx ≠ x → sp (.ref x :: (vs ++ [])) (upd (upd H dx (.own x)) x (.ins C dx [])) (fun v H2 => v = .non ∧ Q (.ref x) H2) E) :
    wpAny (model X.prog X.w) X.A (call (.ref C) us) (EP X pins σ Q) X.xe s := by
  have n0 : H s.heap.objs.size = none := I.hok.fresh (Nat.le_refl _)
  have n1 : H (s.heap.objs.size + 1) = none := I.hok.fresh (Nat.le_succ _)
  have hq := h _ _ n1 n0 (Nat.ne_of_lt (Nat.lt_succ_self _))
  have J := Inv.made (C := C) I
  have rr : Vals (V.ref (s.heap.objs.size + 1) :: (vs ++ [])) (Value.ref (s.heap.objs.size + 1) :: us) := .cons rfl (by rw [List.append_nil]; exact r)
  have len : (Value.ref (s.heap.objs.size + 1) :: us ++ []).length = ps.length := by
    rw [List.append_nil]
    exact rr.length.symm.trans (F.len _ _ _ _ hq)
  have bd := hb _ (Value.ref (s.heap.objs.size + 1) :: us) J.kIn len
  rw [List.append_nil] at bd
  refine wpAny_call (make_map (f := f) I.kIn M.makes M.init (beq_iff_eq.mp M.fn) (codeAny_mono (F.run _ X.stack _ _ ⟨Value.ref (s.heap.objs.size + 1) :: us, []⟩ (Value.ref (s.heap.objs.size + 1) :: us) _ _ E (hr.make C us []) (J.env0.make C us []) bd rr hq) fun b s' z => ?_))
  match b, z with
  | .error e, z => exact hp pins _ _ e s' J z
  | .ok (.ret u), z =>
    obtain ⟨v, H', J3, rv, ev, q3⟩ := J.after z
    subst ev
    exact ⟨rv, .ref (s.heap.objs.size + 1), H', J3, rfl, q3⟩
  | .ok .next, z => exact False.elim z
  | .ok .brk, z => exact False.elim z
  | .ok .cont, z => exact False.elim z
def tMakeS (C : Addr) (sp : Sp) (E : L2.St → XK) (t : TA) : TE := fun σ H Q => t σ H fun vs H1 => ∀ x dx, H1 x = none → H1 dx = none → dx ≠ x → sp (.ref x :: (vs ++ [])) (upd (upd H1 dx (.own x)) x (.ins C dx [])) (fun v H2 => v = .non ∧ Q (.ref x) H2) (E σ)
theorem w_makeS {E : L2.St → XK} {t : TA} {σ : L2.St} {H : Hp} {Q : VK} (q : t σ H fun vs H1 => ∀ x dx, H1 x = none → H1 dx = none → dx ≠ x → sp (.ref x :: (vs ++ [])) (upd (upd H1 dx (.own x)) x (.ins C dx [])) (fun v H2 => v = .non ∧ Q (.ref x) H2) (E σ)) : tMakeS C sp E t σ H Q := q
theorem pe_makeS {E : L2.St → XK} {x : Str} {p pos : Pos} {e : Expr} {es : List Expr} {t : TA} (M : Mk X.K C f) (F : FnOk X.prog X.w X.K X.mg X.base CX k f fd ps sp) (hr : Room (k + 1) X.A) (hg : Gl X x) (hm : X.mg x = some (.ref C)) (hb : Binds X.K fd ps []) (hp : ∀ σ, PassesAt CX X σ (E σ)) (ha : PA X (e :: es) t)
    (hd : (x == ("__debug__" : Str)) = false := by decide) (he : starEach (e :: es) X.env = (false, eval e X.env) :: starEach es X.env := by rfl) (hl : (backTo pos (starEach es X.env)).any (·.1) = false := by rfl) :
    PE X (.Call (.Name x p) (e :: es) [] pos) (tMakeS C sp E t) := by
  constructor
  intro pins s σ H Q I h
  refine wpAny_Call_Name_kw (ld_glob I hg hm ?_ hd)
  refine PySem.W.callWith_K (h₀ := X.base) I.ok.mod.kin M.kp (thn (ha.run pos pins s σ H _ I h) fun us s1 z => ?_) he hl
  obtain ⟨vs, H1, I1, r, q⟩ := z
  exact ⟨I1.kIn, run_makeS M F hr hb (hp σ) I1 r q⟩
end
/-! ### the caught error is asked of what class it is -/
def rIsX' (K : PySem.W.Frag) (D a : Addr) (cls : Value) (d : Option Addr) : List V → Hp → VK → Prop := fun xs H Q => cls = .ref D ∧ rIsX K D a d xs H Q
theorem call_isX' {X : Cx} {a D : Addr} {oe : Obj} {d : Option Addr} {cls : Value} {pn : List (Addr × Obj)} (C : ExcC X.K D) (hz : Zc cls d oe) (hf : ∃ vs, oe.data = .fields vs) : CallR (X.suite a ((a, oe) :: pn)) (.builtin "isinstance") (rIsX' X.K D a cls d) := by
  intro pins s σ H xs us Q I r h
  exact call_isX C hz h.1 hf pins s σ H xs us Q I r h.2
theorem w_xf {a C : Addr} {cls : Value} {d : Option Addr} {f : Str} {te : TE} {σ : L2.St} {H : Hp} {Q : VK} (q : te σ H fun x H1 => x = .ref a ∧ cls = .ref C ∧ ∃ (dd : Addr) (fs : List (Str × V)) (v : V), d = some dd ∧ H1 dd = some (.xd fs) ∧ fs.lookup f = some v ∧ Q v H1) : tXf a cls d C f te σ H Q := q
/-- any thing == a tuple of ints and tuples, whatever the hand -/
def rEqAb' (C : Addr) (d : Nat) : R2 := fun x y H Q => ∃ hd, rEqAb C hd d x y H Q
theorem op_eqAb' {X : Cx} {n : Nat} {CX : CXT} {C f : Addr} {fd : FuncData} {ps : List Str} {sp : Sp} {E : XK} (O : OwnEq X n CX C f fd ps sp E) (d : Nat) (hr : Room (n + d + 2) X.A) : OpR X (compareOp .Eq) (rEqAb' C d) := by
  intro pins s σ H x y u v Q I rx ry h
  obtain ⟨hd, h⟩ := h
  exact op_eqAb (hd := hd) O d hr pins s σ H x y u v Q I rx ry h
/-! ### any thing of ints and tuples is data -/
mutual
def tgD : Tg → PyData
  | .non => .none
  | .bl b => .bool b
  | .int i => .int i
  | .str x => .str x
  | .tup ts => .tuple (tgDs ts)
  | .oth => .none
def tgDs : List Tg → List PyData
  | [] => []
  | t :: ts => tgD t :: tgDs ts
end
mutual
theorem Ab.dp {K : PySem.W.Frag} {C hd : Addr} {H : Hp} : ∀ (d : Nat) (t : Tg) (v : V), Pl d t → Ab C hd H v t → Dp K H v (tgD t)
  | _, .int i, _, _, h => by cases h; exact .int i
  | _, .tup ts, _, .tup hp, h => by
    cases h with
    | tup r al => exact .tup (.inl r) (AbAll.dp _ ts _ hp al)
theorem AbAll.dp {K : PySem.W.Frag} {C hd : Addr} {H : Hp} : ∀ (d : Nat) (ts : List Tg) (vs : List V), (∀ u ∈ ts, Pl d u) → AbAll C hd H vs ts → DpAll K H vs (tgDs ts)
  | _, [], _, _, h => by cases h; exact .nil
  | d, t :: ts, _, hp, h => by
    cases h with
    | cons h1 h2 => exact .cons (Ab.dp d t _ (hp t List.mem_cons_self) h1) (AbAll.dp d ts _ (fun u hu => hp u (List.mem_cons_of_mem _ hu)) h2)
end
/-! ### pairs -/
theorem AbAll.two {C hd : Addr} {H : Hp} {xs : List V} {t1 t2 : Tg} (h : AbAll C hd H xs [t1, t2]) : ∃ v1 v2, xs = [v1, v2] ∧ Ab C hd H v1 t1 ∧ Ab C hd H v2 t2 := by
  cases h with
  | cons h1 h =>
    cases h with
    | cons h2 h => cases h; exact ⟨_, _, rfl, h1, h2⟩
theorem Ab.int_inv {C hd : Addr} {H : Hp} {v : V} {i : Int} (h : Ab C hd H v (.int i)) : v = .int i := by cases h; rfl
theorem Ab.pair {C hd : Addr} {H : Hp} {v : V} {x y : Int} (h : Ab C hd H v (.tup [.int x, .int y])) : ∃ p, v = .ref p ∧ Rd H p (.tup [.int x, .int y]) := by
  cases h with
  | tup r al =>
    obtain ⟨_, _, rfl, a1, a2⟩ := al.two
    obtain rfl := a1.int_inv
    obtain rfl := a2.int_inv
    exact ⟨_, rfl, r⟩
/-! ### the first of some numbers that is not right -/
def fw (f : Nat → Bool) (n : Nat) : Option Nat := (List.range n).find? fun i => !f i
theorem fw_none {f : Nat → Bool} {n : Nat} (h : ∀ j, j < n → f j = true) : fw f n = none := by
  unfold fw
  rw [List.find?_eq_none]
  intro j hj
  rw [h j (List.mem_range.mp hj)]
  decide
theorem fw_some {f : Nat → Bool} : ∀ {n i : Nat}, i < n → (∀ j, j < i → f j = true) → f i = false → fw f n = some i
  | 0, i, hi, _, _ => absurd hi (Nat.not_lt_zero _)
  | n + 1, i, hi, h, hf => by
    unfold fw
    rw [List.range_succ, List.find?_append]
    by_cases c : i < n
    · have e : (List.range n).find? (fun i => !f i) = some i := fw_some c h hf
      rw [e]; rfl
    · have ei : i = n := by omega
      subst ei
      have e : (List.range i).find? (fun i => !f i) = none := fw_none h
      rw [e]
      simp [hf]
/-! ### tuples of ints, by their order -/
theorem le_pair {a b c d : Int} : Ob.lexAt (fun j => decide (([a, b] : List Int).getD j 0 = ([c, d] : List Int).getD j 0)) (fun j => decide (([a, b] : List Int).getD j 0 ≤ ([c, d] : List Int).getD j 0)) (decide (([a, b] : List Int).length ≤ ([c, d] : List Int).length)) 0 (min ([a, b] : List Int).length ([c, d] : List Int).length) = !(decide (c < a) || (decide (c = a) && decide (d < b))) := by
  by_cases e : a = c
  · subst e
    by_cases e2 : b = d
    · subst e2; simp [Ob.lexAt]
    · simp [Ob.lexAt, e2]; by_cases e3 : b ≤ d <;> simp [e3] <;> omega
  · have e' : ¬ c = a := fun z => e z.symm
    simp [Ob.lexAt, e, e']; by_cases e3 : a ≤ c <;> simp [e3] <;> omega
theorem ge_pair {a b c d : Int} : Ob.lexAt (fun j => decide (([a, b] : List Int).getD j 0 = ([c, d] : List Int).getD j 0)) (fun j => decide (([c, d] : List Int).getD j 0 ≤ ([a, b] : List Int).getD j 0)) (decide (([a, b] : List Int).length ≥ ([c, d] : List Int).length)) 0 (min ([a, b] : List Int).length ([c, d] : List Int).length) = !(decide (a < c) || (decide (a = c) && decide (b < d))) := by
  by_cases e : a = c
  · subst e
    by_cases e2 : b = d
    · subst e2; simp [Ob.lexAt]
    · simp [Ob.lexAt, e2]; by_cases e3 : d ≤ b <;> simp [e3] <;> omega
  · simp [Ob.lexAt, e]; by_cases e3 : c ≤ a <;> simp [e3] <;> omega
end GA
/-! ## GS -/
namespace GA
open PySem PySem.Spec PyProof.Rows L2
/-! ### len(set(t)), t a tuple of ints -/
theorem not_nodup_less {α : Type} [DecidableEq α] : ∀ {l : List α}, ¬ l.Nodup → ∃ m : List α, m.length < l.length ∧ ∀ x ∈ l, x ∈ m
  | [], h => absurd List.nodup_nil h
  | x :: l, h => by
    by_cases c : x ∈ l
    · refine ⟨l, by simp, fun y hy => ?_⟩
      rcases List.mem_cons.mp hy with e | e
      · exact e ▸ c
      · exact e
    · obtain ⟨m, h1, h2⟩ := not_nodup_less (l := l) fun n => h (List.nodup_cons.mpr ⟨c, n⟩)
      refine ⟨x :: m, by simpa using h1, fun y hy => ?_⟩
      rcases List.mem_cons.mp hy with e | e
      · exact e ▸ List.mem_cons_self
      · exact List.mem_cons_of_mem _ (h2 y e)
theorem few_iff {ks ns : List Int} (nd : ks.Nodup) (mem : ∀ k, k ∈ ks ↔ k ∈ ns) : ks.length = ns.length ↔ ns.Nodup := by
  constructor
  · intro e
    by_cases c : ns.Nodup
    · exact c
    · obtain ⟨m, h1, h2⟩ := not_nodup_less c
      have := List.Nodup.length_le_of_subset (l₂ := m) nd fun x hx => h2 x ((mem x).mp hx)
      omega
  · intro h
    exact ((List.perm_ext_iff_of_nodup nd h).mpr mem).length_eq
section
variable {X : Cx}
def tLenSetTG (K : PySem.W.Frag) (ta : TE) : TE := fun σ H Q => ta σ H fun x H1 => ∃ (l : Addr) (ns : List Int), x = V.ref l ∧ SqT K H1 l (ns.map V.int) ∧ ns.length ≤ 1000 ∧ ∀ k : Nat, (k = ns.length ↔ ns.Nodup) → Q (.int k) H1
theorem w_lenSetTG {K : PySem.W.Frag} {ta : TE} {σ : L2.St} {H : Hp} {Q : VK} (q : ta σ H fun x H1 => ∃ (l : Addr) (ns : List Int), x = V.ref l ∧ SqT K H1 l (ns.map V.int) ∧ ns.length ≤ 1000 ∧ ∀ k : Nat, (k = ns.length ↔ ns.Nodup) → Q (.int k) H1) : tLenSetTG K ta σ H Q := q
theorem pe_lenSetTG {a : Expr} {ta : TE} {p p2 q pos : Pos} (hc : X.calm = true) (hg : Gl X "len") (hm : X.mg "len" = none) (hg2 : Gl X "set") (hm2 : X.mg "set" = none) (ha : PE X a ta)
    (na : starEach [a] X.env = (false, eval a X.env) :: starEach [] X.env := by rfl) : PE X (.Call (.Name "len" p) [.Call (.Name "set" p2) [a] [] q] [] pos) (tLenSetTG X.K ta) := by
  refine ⟨fun pins s σ H Q I h => Call_ (ld_blt I hg hm PySem.boot_len (PyProof.Rows.callWith_builtin1 (PyProof.Rows.args_cons ?_ rfl) rfl rfl))⟩
  refine Call_ (ld_blt I hg2 hm2 PyProof.Rows.boot_set (PyProof.Rows.callWith_type1 (PyProof.Rows.args_cons (thn (ha.run pins s σ H _ I h) fun v s1 ⟨x, H1, I1, r1, l, ns, ex, hq, h1, q1⟩ => PyProof.Rows.args_nil ?_) na) na rfl))
  subst ex
  cases r1
  obtain ⟨its, r, pt, _⟩ := I1.tuple hq
  refine call_set_tupI ns (I1.ok.hd hc) pt (ints_of_vals r) (by unfold scanBound; omega) fun h' tk c R _ keep => PyProof.Rows.args_nil ?_
  obtain ⟨o, es, ep, t, ho, hex, hd, _, nd, mem, hsz, hf, _⟩ := R
  have mem' : ∀ k, k ∈ es.toList.map keyOf ↔ k ∈ ns := fun k => by rw [← mem]; simp
  have e := few_iff nd mem'
  have le : es.size ≤ ns.length := by
    have := List.Nodup.length_le_of_subset (l₂ := ns) nd fun x hx => (mem' x).mp hx
    simpa using this
  have I2 : Inv X pins σ H1 { s1 with heap := h', toks := tk } := I1.kept keep
  exact call_len_set ho hex hd hf (by omega) ⟨.int es.size, H1, I2.tok _, ⟨_, rfl⟩, q1 es.size (by simpa using e)⟩
end
/-! ### tuples of ints, small ones -/
theorem AbAll.ints_inv {C hd : Addr} {H : Hp} : ∀ {d : List Int} {xs : List V}, AbAll C hd H xs (d.map Tg.int) → xs = d.map V.int
  | [], _, h => by cases h; rfl
  | i :: d, _, h => by
    cases h with
    | cons h1 h2 => rw [h1.int_inv, AbAll.ints_inv h2]; rfl
mutual
def smT : Tg → Bool
  | .tup ts => decide (ts.length ≤ 1000) && smTs ts
  | _ => true
def smTs : List Tg → Bool
  | [] => true
  | t :: ts => smT t && smTs ts
end
theorem smTs_all : ∀ {ts : List Tg}, smTs ts = true → ∀ t ∈ ts, smT t = true
  | [], _, _, h => nomatch h
  | t :: ts, h, u, hu => by
    rw [smTs, Bool.and_eq_true] at h
    rcases List.mem_cons.mp hu with e | e
    · rw [e]; exact h.1
    · exact smTs_all h.2 u e
theorem smTs_of : ∀ {ts : List Tg}, (∀ t ∈ ts, smT t = true) → smTs ts = true
  | [], _ => rfl
  | t :: ts, h => by
    rw [smTs, h t List.mem_cons_self, smTs_of fun u hu => h u (List.mem_cons_of_mem _ hu)]; rfl
theorem smT_tup {ts : List Tg} (h : smT (.tup ts) = true) : ts.length ≤ 1000 ∧ ∀ t ∈ ts, smT t = true := by
  rw [smT, Bool.and_eq_true, decide_eq_true_eq] at h
  exact ⟨h.1, smTs_all h.2⟩
theorem smT_of {ts : List Tg} (h : ts.length ≤ 1000) (k : ∀ t ∈ ts, smT t = true) : smT (.tup ts) = true := by
  rw [smT, smTs_of k, decide_eq_true h]; rfl
/-! ### t[::-1] of a tuple -/
theorem vals_pick {xs : List V} {its : List Value} (r : Vals xs its) (f : Nat → Nat) : ∀ l : List Nat, Vals (l.filterMap fun k => xs[f k]?) (l.filterMap fun k => its[f k]?)
  | [] => .nil
  | k :: l => by
    have ih := vals_pick r f l
    rw [List.filterMap_cons, List.filterMap_cons]
    by_cases c : f k < xs.length
    · obtain ⟨u, hu, ru⟩ := r.get (List.getElem?_eq_getElem c)
      rw [List.getElem?_eq_getElem c, hu]
      exact .cons ru ih
    · have c2 : ¬ f k < its.length := by rw [← r.length]; exact c
      rw [List.getElem?_eq_none (by omega), List.getElem?_eq_none (by omega)]
      exact ih
theorem pick_le {α : Type} (f : Nat → Option α) : ∀ l : List Nat, (l.filterMap f).length ≤ l.length := fun l => List.length_filterMap_le f l
theorem neg_adjust (n : Nat) : Builtin.Slice.sliceAdjust none none (-1) (n : Int) = ((n : Int) - 1, -1) := by
  unfold Builtin.Slice.sliceAdjust
  simp
theorem neg_places (n : Nat) : Builtin.Slice.slicePlaces ((n : Int) - 1) (-1) (-1) = n := by
  unfold Builtin.Slice.slicePlaces
  cases n with
  | zero => simp
  | succ n =>
    simp
    split <;> omega
section
variable {prog : Program} {w : World} {A : Around} {E : Value → Shared → Prop} {s : Shared}
theorem slice_back {sl : Addr} {vl vu vs : Value} {n : Nat} {Q : Int × Int × Nat → Shared → Prop} (hs : s.heap.IsSliceOf sl vl vu vs) (pl : IsPart vl none) (pu : IsPart vu none) (ps : IsPart vs (some (-1))) (h : Q ((n : Int) - 1, -1, n) s) :
    wpAny (model prog w) A (Builtin.Slice.sliceApplied (.ref sl) (pure (n : Int))) Q E s := by
  obtain ⟨os, hos, hcs, hds⟩ := id hs
  unfold Builtin.Slice.sliceApplied Builtin.Slice.sliceFields
  refine wpAny_bind (wpAny_bind (wpAny_field hos hds (x := vl) rfl (wpAny_bind (wpAny_field hos hds (x := vu) rfl (wpAny_bind (wpAny_field hos hds (x := vs) rfl (wpAny_pure ?_)))))))
  refine wpAny_bind (HT.slicePart_ ps ?_)
  show wpAny _ _ (if ((-1 : Int) == 0) = true then _ else _) _ _ s
  rw [if_neg (by decide)]
  refine wpAny_bind (HT.slicePart_ pl (wpAny_bind (HT.slicePart_ pu (wpAny_bind (wpAny_pure ?_)))))
  show wpAny _ _ (match Builtin.Slice.sliceAdjust none none (-1) (n : Int) with | (lo, hi) => pure (lo, (-1 : Int), Builtin.Slice.slicePlaces lo hi (-1))) _ _ s
  rw [neg_adjust]
  show wpAny _ _ (pure ((n : Int) - 1, (-1 : Int), Builtin.Slice.slicePlaces ((n : Int) - 1) (-1) (-1))) _ _ s
  rw [neg_places]
  exact wpAny_pure h
end
section
variable {X : Cx}
/-- t[::-1]: a new tuple of what t holds -/
def tRevT (K : PySem.W.Frag) (te : TE) : TE := fun σ H Q => te σ H fun x H1 => ∃ (a : Addr) (xs : List V), x = .ref a ∧ SqT K H1 a xs ∧ ∀ q H2, H1 q = none → (∀ o, G o H1 H2) → H2 q = some (.tup ((List.range xs.length).filterMap fun (k : Nat) => xs[(((xs.length : Int) - 1) + (k : Int) * (-1)).toNat]?)) → Q (.ref q) H2
theorem w_revT {K : PySem.W.Frag} {te : TE} {σ : L2.St} {H : Hp} {Q : VK} (q : te σ H fun x H1 => ∃ (a : Addr) (xs : List V), x = .ref a ∧ SqT K H1 a xs ∧ ∀ q H2, H1 q = none → (∀ o, G o H1 H2) → H2 q = some (.tup ((List.range xs.length).filterMap fun (k : Nat) => xs[(((xs.length : Int) - 1) + (k : Int) * (-1)).toNat]?)) → Q (.ref q) H2) : tRevT K te σ H Q := q
theorem pe_revT {e : Expr} {te : TE} {k : Nat} {p1 p2 p3 pos : Pos} (he : PE X e te) : PE X (.Subscript e (.Slice none none (some (.UnaryOp .USub (.Constant (.int 1) k p1) p2)) p3) pos) (tRevT X.K te) := by
  constructor
  intro pins s σ H Q I h
  refine Subscript_ (thn (he.run pins s σ H _ I h) fun v s1 z => ?_)
  obtain ⟨x, H1, I1, r1, a, xs, rfl, hx, q⟩ := z
  cases r1
  have hst : PO X (some (.UnaryOp .USub (.Constant (.int 1) k p1) p2)) (tPart (tUn (rU fun i => .int (-i)) (tC (.int 1)))) := po_some (pe_un un_neg pe_int)
  refine wpAny_Slice (thn (po_none.run pins s1 σ H1 (fun o H2 => o = none ∧ H2 = H1) I1 ⟨rfl, rfl⟩) fun vl s2 z2 => ?_)
  obtain ⟨_, H2, I2, pl, rfl, rfl⟩ := z2
  refine thn (po_none.run pins s2 σ H2 (fun o H3 => o = none ∧ H3 = H2) I2 ⟨rfl, rfl⟩) fun vu s3 z3 => ?_
  obtain ⟨_, H3, I3, pu, rfl, rfl⟩ := z3
  refine thn (hst.run pins s3 σ H3 (fun o H4 => o = some (-1) ∧ H4 = H3) I3 ⟨1, rfl, -1, rfl, rfl, rfl⟩) fun vs s4 z4 => ?_
  obtain ⟨_, H4, I4, ps, rfl, rfl⟩ := z4
  obtain ⟨S, eS⟩ : ∃ S : Shared, S = { s4 with heap := s4.heap.push { cls := .type "slice", data := .fields #[vl, vu, vs] } } := ⟨_, rfl⟩
  have I5 : Inv X pins σ H4 S := by rw [eS]; exact I4.kept (t' := s4.toks) fun b ob q => Heap.get?_push_of_some _ q
  obtain ⟨its, r, ht, hz⟩ := I5.tuple hx
  have hlen : its.toArray.size = xs.length := by rw [List.size_toArray]; exact r.length.symm
  have hsl : S.heap.IsSliceOf s4.heap.objs.size vl vu vs := by rw [eS]; exact Heap.IsSliceOf.new _ vl vu vs
  show wpAny (model X.prog X.w) X.A (subscriptTail e (.Slice none none (some (.UnaryOp .USub (.Constant (.int 1) k p1) p2)) p3) (.ref a) (.ref s4.heap.objs.size)) (EP X pins σ Q) X.xe { s4 with heap := s4.heap.push { cls := .type "slice", data := .fields #[vl, vu, vs] } }
  rw [← eS]
  refine tail_any (ops := [.ref a, .ref s4.heap.objs.size]) ht.typeIs PyProof.Rows.slot_tuple_getitem.lookup ?_ (by with_unfolding_all rfl)
  obtain ⟨os, hos, hcs, hds⟩ := id hsl
  have hTs : S.TypeIs (.ref s4.heap.objs.size) "slice" := ⟨os, hos, hcs⟩
  unfold getItem
  try with_reducible refine wpAny_holding ?_
  first | refine wpAny_bind (wpAny_pure ?_) | skip
  refine wpAny_bind (wpAny_sequenceKey ht.typeIs (by decide) ?_)
  refine wpAny_bind (wpAny_callSpecial?_slot (name := Str.ofString "__getitem__") ht.typeIs PyProof.Rows.slot_tuple_getitem (wpAny_call_entry PyProof.Rows.slot_tuple_getitem ht.typeIs PyProof.Rows.entry_tuple_getitem ?_ (PyProof.Rows.args_tuple_getitem _ _)))
  show wpAny _ _ (Builtin.Tuple.tupleItemsOf (.ref a) >>= _) _ _ S
  refine wpAny_bind (PyProof.Rows.tupleItemsOf_ ht ?_)
  refine wpAny_bind (wpAny_typeOf hTs ?_)
  rw [if_pos (by decide)]
  refine wpAny_bind (slice_back (n := its.toArray.size) hsl pl pu ps ?_)
  have hno : ¬ ((((its.toArray.size : Nat) : Int) - 1 == 0 && (-1 : Int) == 1 && its.toArray.size == its.toArray.size) = true) := by
    intro z
    rw [Bool.and_eq_true, Bool.and_eq_true] at z
    exact absurd z.1.2 (by decide)
  show wpAny _ _ (if (((its.toArray.size : Nat) : Int) - 1 == 0 && (-1 : Int) == 1 && its.toArray.size == its.toArray.size) = true then _ else _) _ _ S
  rw [if_neg hno]
  have rel := vals_pick r (fun (k : Nat) => (((xs.length : Int) - 1) + (k : Int) * (-1)).toNat) (List.range xs.length)
  have eit : ((List.range its.toArray.size).filterMap fun (k : Nat) => its.toArray[(((its.toArray.size : Nat) : Int) - 1 + (k : Int) * (-1)).toNat]?) = (List.range xs.length).filterMap fun (k : Nat) => its[(((xs.length : Int) - 1) + (k : Int) * (-1)).toNat]? := by
    rw [hlen]
    congr 1
    funext k
    simp
  have lz : ((List.range xs.length).filterMap fun (k : Nat) => its[(((xs.length : Int) - 1) + (k : Int) * (-1)).toNat]?).length ≤ sizeLine := by
    have := pick_le (fun (k : Nat) => its[(((xs.length : Int) - 1) + (k : Int) * (-1)).toNat]?) (List.range xs.length)
    rw [List.length_range] at this
    omega
  have new : H4 S.heap.objs.size = none := I5.hok.fresh (Nat.le_refl _)
  rw [eit]
  have fin : EP X pins σ Q (.ref S.heap.objs.size) { S with heap := S.heap.push { cls := .type "tuple", data := .seq ((List.range xs.length).filterMap fun (k : Nat) => its[(((xs.length : Int) - 1) + (k : Int) * (-1)).toNat]?).toArray } } := by
    refine ⟨.ref S.heap.objs.size, _, I5.laid (t' := S.toks) (o := .tup ((List.range xs.length).filterMap fun (k : Nat) => xs[(((xs.length : Int) - 1) + (k : Int) * (-1)).toNat]?)) (fun b ob q => Heap.get?_push_of_some _ q) (Nat.le_refl _) ?_, rfl, q _ _ new (fun _ => G.alloc new) upd_same⟩
    exact ⟨by rw [rel.length]; exact lz, _, rel, IsTup.new _ _⟩
  first
    | exact wpAny_bind (m := Builtin.Tuple.tupleExact _) (wpAny_newObj_type (wpAny_pure ⟨_, rfl, wpAny_pure fin⟩) (by show _ ≤ sizeLine; rw [List.size_toArray]; exact lz))
    | exact wpAny_bind (wpAny_bind (m := Builtin.Tuple.tupleExact _) (wpAny_newObj_type (wpAny_pure (wpAny_pure ⟨_, rfl, wpAny_pure fin⟩)) (by show _ ≤ sizeLine; rw [List.size_toArray]; exact lz)))
    | exact wpAny_bind (wpAny_bind (m := Builtin.Tuple.tupleExact _) (wpAny_newObj_type (wpAny_pure ⟨_, rfl, wpAny_pure fin⟩) (by show _ ≤ sizeLine; rw [List.size_toArray]; exact lz)))
end
end GA
/-! ## KH -/
namespace Mine
open PySem L2 GA
def top (i : Nat) : Stmt := PySem.Challenge.pw_growalong_k04_records_judged_and_compare.main.body.getD i (.Pass ⟨0, 0, 0, 0⟩)
abbrev s_BadRecord_init : Stmt := inClass (top 2) 0
abbrev N_BadRecord_init : List Str := ["self", "part", "at"]
abbrev P_BadRecord_init : List Str := ["self", "part", "at"]
theorem sc_BadRecord_init : FnScope N_BadRecord_init P_BadRecord_init (defScope s_BadRecord_init) := ⟨rfl, rfl, rfl, by decide +kernel, rfl, by decide +kernel, by decide +kernel⟩
abbrev s_is_integer : Stmt := top 4
abbrev N_is_integer : List Str := ["thing"]
abbrev P_is_integer : List Str := ["thing"]
theorem sc_is_integer : FnScope N_is_integer P_is_integer (defScope s_is_integer) := ⟨rfl, rfl, rfl, by decide +kernel, rfl, by decide +kernel, by decide +kernel⟩
abbrev s_is_between : Stmt := top 5
abbrev N_is_between : List Str := ["low", "high", "thing"]
abbrev P_is_between : List Str := ["low", "high", "thing"]
theorem sc_is_between : FnScope N_is_between P_is_between (defScope s_is_between) := ⟨rfl, rfl, rfl, by decide +kernel, rfl, by decide +kernel, by decide +kernel⟩
abbrev s_is_below : Stmt := top 6
abbrev N_is_below : List Str := ["bound", "thing"]
abbrev P_is_below : List Str := ["bound", "thing"]
theorem sc_is_below : FnScope N_is_below P_is_below (defScope s_is_below) := ⟨rfl, rfl, rfl, by decide +kernel, rfl, by decide +kernel, by decide +kernel⟩
abbrev s_is_tuple_of : Stmt := top 7
abbrev N_is_tuple_of : List Str := ["least", "most", "thing"]
abbrev P_is_tuple_of : List Str := ["least", "most", "thing"]
theorem sc_is_tuple_of : FnScope N_is_tuple_of P_is_tuple_of (defScope s_is_tuple_of) := ⟨rfl, rfl, rfl, by decide +kernel, rfl, by decide +kernel, by decide +kernel⟩
abbrev s_are_below : Stmt := top 8
abbrev N_are_below : List Str := ["bound", "things", "thing"]
abbrev P_are_below : List Str := ["bound", "things"]
theorem sc_are_below : FnScope N_are_below P_are_below (defScope s_are_below) := ⟨rfl, rfl, rfl, by decide +kernel, rfl, by decide +kernel, by decide +kernel⟩
abbrev s_Record_init : Stmt := inClass (top 12) 0
abbrev N_Record_init : List Str := ["self", "writers", "diaries"]
abbrev P_Record_init : List Str := ["self", "writers", "diaries"]
theorem sc_Record_init : FnScope N_Record_init P_Record_init (defScope s_Record_init) := ⟨rfl, rfl, rfl, by decide +kernel, rfl, by decide +kernel, by decide +kernel⟩
abbrev s_Record_eq : Stmt := inClass (top 12) 1
abbrev N_Record_eq : List Str := ["self", "other"]
abbrev P_Record_eq : List Str := ["self", "other"]
theorem sc_Record_eq : FnScope N_Record_eq P_Record_eq (defScope s_Record_eq) := ⟨rfl, rfl, rfl, by decide +kernel, rfl, by decide +kernel, by decide +kernel⟩
abbrev s_check_record : Stmt := top 13
abbrev N_check_record : List Str := ["writers", "diaries", "put", "writer", "machine", "diary"]
abbrev P_check_record : List Str := ["writers", "diaries"]
theorem sc_check_record : FnScope N_check_record P_check_record (defScope s_check_record) := ⟨rfl, rfl, rfl, by decide +kernel, rfl, by decide +kernel, by decide +kernel⟩
abbrev s_is_diary : Stmt := top 14
abbrev N_is_diary : List Str := ["puts", "thing"]
abbrev P_is_diary : List Str := ["puts", "thing"]
theorem sc_is_diary : FnScope N_is_diary P_is_diary (defScope s_is_diary) := ⟨rfl, rfl, rfl, by decide +kernel, rfl, by decide +kernel, by decide +kernel⟩
abbrev s__law_hand : Stmt := top 16
abbrev N__law_hand : List Str := ["_law_script", "_law_cells", "_law_cell"]
abbrev P__law_hand : List Str := ["_law_script"]
theorem sc__law_hand : FnScope N__law_hand P__law_hand (defScope s__law_hand) := ⟨rfl, rfl, rfl, by decide +kernel, rfl, by decide +kernel, by decide +kernel⟩
abbrev s__law_draw : Stmt := top 17
abbrev N__law_draw : List Str := ["_law_hand_here", "_law_many", "_law_cell", "_law_digit", "_law_number"]
abbrev P__law_draw : List Str := ["_law_hand_here", "_law_many"]
theorem sc__law_draw : FnScope N__law_draw P__law_draw (defScope s__law_draw) := ⟨rfl, rfl, rfl, by decide +kernel, rfl, by decide +kernel, by decide +kernel⟩
abbrev s__law_is : Stmt := top 18
abbrev N__law_is : List Str := ["_law_told_here", "_law_due_here", "_law_one", "_law_two"]
abbrev P__law_is : List Str := ["_law_told_here", "_law_due_here"]
theorem sc__law_is : FnScope N__law_is P__law_is (defScope s__law_is) := ⟨rfl, rfl, rfl, by decide +kernel, rfl, by decide +kernel, by decide +kernel⟩
abbrev s__law_deep : Stmt := top 19
abbrev N__law_deep : List Str := ["_law_hand_here", "_law_found", "_law_turn"]
abbrev P__law_deep : List Str := ["_law_hand_here"]
theorem sc__law_deep : FnScope N__law_deep P__law_deep (defScope s__law_deep) := ⟨rfl, rfl, rfl, by decide +kernel, rfl, by decide +kernel, by decide +kernel⟩
abbrev s__law_web : Stmt := top 20
abbrev N__law_web : List Str := ["_law_hand_here", "_law_machines", "_law_kind", "_law_found", "_law_y", "_law_x", "_law_near"]
abbrev P__law_web : List Str := ["_law_hand_here", "_law_machines"]
theorem sc__law_web : FnScope N__law_web P__law_web (defScope s__law_web) := ⟨rfl, rfl, rfl, by decide +kernel, rfl, by decide +kernel, by decide +kernel⟩
abbrev s__law_ran : Stmt := top 21
abbrev N__law_ran : List Str := ["_law_hand_here", "_law_machines", "_law_wires", "_law_writers", "_law_most", "_law_diaries", "_law_wire", "_law_letters", "_law_left", "_law_steps", "_law_more", "_law_turn", "_law_ready", "_law_put", "_law_x", "_law_y", "_law_machine", "_law_diary"]
abbrev P__law_ran : List Str := ["_law_hand_here", "_law_machines", "_law_wires", "_law_writers", "_law_most"]
theorem sc__law_ran : FnScope N__law_ran P__law_ran (defScope s__law_ran) := ⟨rfl, rfl, rfl, by decide +kernel, rfl, by decide +kernel, by decide +kernel⟩
abbrev s__law_is_whole : Stmt := top 22
abbrev N__law_is_whole : List Str := ["_law_thing", "_law_many"]
abbrev P__law_is_whole : List Str := ["_law_thing", "_law_many"]
theorem sc__law_is_whole : FnScope N__law_is_whole P__law_is_whole (defScope s__law_is_whole) := ⟨rfl, rfl, rfl, by decide +kernel, rfl, by decide +kernel, by decide +kernel⟩
abbrev s__law_is_sized : Stmt := top 23
abbrev N__law_is_sized : List Str := ["_law_thing", "_law_least", "_law_most"]
abbrev P__law_is_sized : List Str := ["_law_thing", "_law_least", "_law_most"]
theorem sc__law_is_sized : FnScope N__law_is_sized P__law_is_sized (defScope s__law_is_sized) := ⟨rfl, rfl, rfl, by decide +kernel, rfl, by decide +kernel, by decide +kernel⟩
abbrev s__law_due : Stmt := top 24
abbrev N__law_due : List Str := ["_law_writers", "_law_diaries", "_law_put", "_law_writer", "_law_x", "_law_diary"]
abbrev P__law_due : List Str := ["_law_writers", "_law_diaries"]
theorem sc__law_due : FnScope N__law_due P__law_due (defScope s__law_due) := ⟨rfl, rfl, rfl, by decide +kernel, rfl, by decide +kernel, by decide +kernel⟩
abbrev s__law_told : Stmt := top 25
abbrev N__law_told : List Str := ["_law_writers", "_law_diaries", "_law_made", "_law_part", "e"]
abbrev P__law_told : List Str := ["_law_writers", "_law_diaries"]
theorem sc__law_told : FnScope N__law_told P__law_told (defScope s__law_told) := ⟨rfl, rfl, rfl, by decide +kernel, rfl, by decide +kernel, by decide +kernel⟩
abbrev s__law_odd : Stmt := top 26
abbrev N__law_odd : List Str := ["_law_hand_here", "_law_odds"]
abbrev P__law_odd : List Str := ["_law_hand_here"]
theorem sc__law_odd : FnScope N__law_odd P__law_odd (defScope s__law_odd) := ⟨rfl, rfl, rfl, by decide +kernel, rfl, by decide +kernel, by decide +kernel⟩
abbrev s__law_bent : Stmt := top 27
abbrev N__law_bent : List Str := ["_law_hand_here", "_law_writers", "_law_diaries", "_law_kind", "_law_odd_here", "_law_x", "_law_at", "_law_own", "_law_things"]
abbrev P__law_bent : List Str := ["_law_hand_here", "_law_writers", "_law_diaries"]
theorem sc__law_bent : FnScope N__law_bent P__law_bent (defScope s__law_bent) := ⟨rfl, rfl, rfl, by decide +kernel, rfl, by decide +kernel, by decide +kernel⟩
abbrev s_law : Stmt := top 28
abbrev N_law : List Str := ["_law_script", "_law_hand_here", "_law_turn", "_law_machines", "_law_many", "_law_writers", "_law_diaries", "_law_record", "_law_other", "_law_due_here", "_law_made", "_law_part", "_law_put"]
abbrev P_law : List Str := ["_law_script"]
theorem sc_law : FnScope N_law P_law (defScope s_law) := ⟨rfl, rfl, rfl, by decide +kernel, rfl, by decide +kernel, by decide +kernel⟩
structure Ads where
  f_BadRecord_init : Addr
  d_BadRecord_init : FuncData
  f_is_integer : Addr
  d_is_integer : FuncData
  f_is_between : Addr
  d_is_between : FuncData
  f_is_below : Addr
  d_is_below : FuncData
  f_is_tuple_of : Addr
  d_is_tuple_of : FuncData
  f_are_below : Addr
  d_are_below : FuncData
  f_Record_init : Addr
  d_Record_init : FuncData
  f_Record_eq : Addr
  d_Record_eq : FuncData
  f_check_record : Addr
  d_check_record : FuncData
  f_is_diary : Addr
  d_is_diary : FuncData
  f__law_hand : Addr
  d__law_hand : FuncData
  f__law_draw : Addr
  d__law_draw : FuncData
  f__law_is : Addr
  d__law_is : FuncData
  f__law_deep : Addr
  d__law_deep : FuncData
  f__law_web : Addr
  d__law_web : FuncData
  f__law_ran : Addr
  d__law_ran : FuncData
  f__law_is_whole : Addr
  d__law_is_whole : FuncData
  f__law_is_sized : Addr
  d__law_is_sized : FuncData
  f__law_due : Addr
  d__law_due : FuncData
  f__law_told : Addr
  d__law_told : FuncData
  f__law_odd : Addr
  d__law_odd : FuncData
  f__law_bent : Addr
  d__law_bent : FuncData
  f_law : Addr
  d_law : FuncData
  c_GrowError : Addr
  c_BadRecord : Addr
  c_Record : Addr
  t_MOST_MACHINES : Tok
  t_MOST_PUTS : Tok
structure Txt (K : PySem.W.Frag) (mg : Str → Option Value) (a : Ads) : Prop where
  F_BadRecord_init : Fun K "__init__" "BadRecord.__init__" s_BadRecord_init a.f_BadRecord_init a.d_BadRecord_init
  b_BadRecord_init : Binds K a.d_BadRecord_init P_BadRecord_init []
  F_is_integer : Fun K "is_integer" "is_integer" s_is_integer a.f_is_integer a.d_is_integer
  b_is_integer : Binds K a.d_is_integer P_is_integer []
  m_is_integer : mg "is_integer" = some (.ref a.f_is_integer)
  F_is_between : Fun K "is_between" "is_between" s_is_between a.f_is_between a.d_is_between
  b_is_between : Binds K a.d_is_between P_is_between []
  m_is_between : mg "is_between" = some (.ref a.f_is_between)
  F_is_below : Fun K "is_below" "is_below" s_is_below a.f_is_below a.d_is_below
  b_is_below : Binds K a.d_is_below P_is_below []
  m_is_below : mg "is_below" = some (.ref a.f_is_below)
  F_is_tuple_of : Fun K "is_tuple_of" "is_tuple_of" s_is_tuple_of a.f_is_tuple_of a.d_is_tuple_of
  b_is_tuple_of : Binds K a.d_is_tuple_of P_is_tuple_of []
  m_is_tuple_of : mg "is_tuple_of" = some (.ref a.f_is_tuple_of)
  F_are_below : Fun K "are_below" "are_below" s_are_below a.f_are_below a.d_are_below
  b_are_below : Binds K a.d_are_below P_are_below []
  m_are_below : mg "are_below" = some (.ref a.f_are_below)
  F_Record_init : Fun K "__init__" "Record.__init__" s_Record_init a.f_Record_init a.d_Record_init
  b_Record_init : Binds K a.d_Record_init P_Record_init []
  F_Record_eq : Fun K "__eq__" "Record.__eq__" s_Record_eq a.f_Record_eq a.d_Record_eq
  b_Record_eq : Binds K a.d_Record_eq P_Record_eq []
  F_check_record : Fun K "check_record" "check_record" s_check_record a.f_check_record a.d_check_record
  b_check_record : Binds K a.d_check_record P_check_record []
  m_check_record : mg "check_record" = some (.ref a.f_check_record)
  F_is_diary : Fun K "is_diary" "is_diary" s_is_diary a.f_is_diary a.d_is_diary
  b_is_diary : Binds K a.d_is_diary P_is_diary []
  m_is_diary : mg "is_diary" = some (.ref a.f_is_diary)
  F__law_hand : Fun K "_law_hand" "_law_hand" s__law_hand a.f__law_hand a.d__law_hand
  b__law_hand : Binds K a.d__law_hand P__law_hand []
  m__law_hand : mg "_law_hand" = some (.ref a.f__law_hand)
  F__law_draw : Fun K "_law_draw" "_law_draw" s__law_draw a.f__law_draw a.d__law_draw
  b__law_draw : Binds K a.d__law_draw P__law_draw []
  m__law_draw : mg "_law_draw" = some (.ref a.f__law_draw)
  F__law_is : Fun K "_law_is" "_law_is" s__law_is a.f__law_is a.d__law_is
  b__law_is : Binds K a.d__law_is P__law_is []
  m__law_is : mg "_law_is" = some (.ref a.f__law_is)
  F__law_deep : Fun K "_law_deep" "_law_deep" s__law_deep a.f__law_deep a.d__law_deep
  b__law_deep : Binds K a.d__law_deep P__law_deep []
  m__law_deep : mg "_law_deep" = some (.ref a.f__law_deep)
  F__law_web : Fun K "_law_web" "_law_web" s__law_web a.f__law_web a.d__law_web
  b__law_web : Binds K a.d__law_web P__law_web []
  m__law_web : mg "_law_web" = some (.ref a.f__law_web)
  F__law_ran : Fun K "_law_ran" "_law_ran" s__law_ran a.f__law_ran a.d__law_ran
  b__law_ran : Binds K a.d__law_ran P__law_ran []
  m__law_ran : mg "_law_ran" = some (.ref a.f__law_ran)
  F__law_is_whole : Fun K "_law_is_whole" "_law_is_whole" s__law_is_whole a.f__law_is_whole a.d__law_is_whole
  b__law_is_whole : Binds K a.d__law_is_whole P__law_is_whole []
  m__law_is_whole : mg "_law_is_whole" = some (.ref a.f__law_is_whole)
  F__law_is_sized : Fun K "_law_is_sized" "_law_is_sized" s__law_is_sized a.f__law_is_sized a.d__law_is_sized
  b__law_is_sized : Binds K a.d__law_is_sized P__law_is_sized []
  m__law_is_sized : mg "_law_is_sized" = some (.ref a.f__law_is_sized)
  F__law_due : Fun K "_law_due" "_law_due" s__law_due a.f__law_due a.d__law_due
  b__law_due : Binds K a.d__law_due P__law_due []
  m__law_due : mg "_law_due" = some (.ref a.f__law_due)
  F__law_told : Fun K "_law_told" "_law_told" s__law_told a.f__law_told a.d__law_told
  b__law_told : Binds K a.d__law_told P__law_told []
  m__law_told : mg "_law_told" = some (.ref a.f__law_told)
  F__law_odd : Fun K "_law_odd" "_law_odd" s__law_odd a.f__law_odd a.d__law_odd
  b__law_odd : Binds K a.d__law_odd P__law_odd []
  m__law_odd : mg "_law_odd" = some (.ref a.f__law_odd)
  F__law_bent : Fun K "_law_bent" "_law_bent" s__law_bent a.f__law_bent a.d__law_bent
  b__law_bent : Binds K a.d__law_bent P__law_bent []
  m__law_bent : mg "_law_bent" = some (.ref a.f__law_bent)
  F_law : Fun K "law" "law" s_law a.f_law a.d_law
  b_law : Binds K a.d_law P_law []
  m_law : mg "law" = some (.ref a.f_law)
  m_GrowError : mg "GrowError" = some (.ref a.c_GrowError)
  m_BadRecord : mg "BadRecord" = some (.ref a.c_BadRecord)
  m_Record : mg "Record" = some (.ref a.c_Record)
  cl_Record : Cls K a.c_Record
  K_Record : Mk K a.c_Record a.f_Record_init
  ic_Record : C8.InsC K a.c_Record
  eqf_Record : PySem.W.findIn K (.ref a.c_Record) "__eq__" = some (some (.ref a.f_Record_eq))
  eqi_Record : PySem.W.isFn K (.ref a.f_Record_eq) = true
  ne_Record : PySem.W.findIn K (.ref a.c_Record) "__ne__" = some (some (.builtin "object.__ne__"))
  na_Record_writers : NoAttr K a.c_Record "writers"
  na_Record_diaries : NoAttr K a.c_Record "diaries"
  ox : OexC K a.c_BadRecord
  xi : PySem.W.findIn K (.ref a.c_BadRecord) "__init__" = some (some (.ref a.f_BadRecord_init))
  xt : PySem.W.typeIn K (.ref a.f_BadRecord_init) = some (.type "function")
  xf : XfC K a.c_BadRecord
  xp : PySem.W.findIn K (.ref a.c_BadRecord) "part" = some none
  xa : PySem.W.findIn K (.ref a.c_BadRecord) "at" = some none
  xc : ExcC K a.c_BadRecord
  xm : PySem.W.exmOne K (.ref a.c_BadRecord) (.ref a.c_GrowError) = some true
  xs : PySem.W.kitOne K (.ref a.c_BadRecord) (.ref a.c_BadRecord) = some true
  xv : PySem.W.kitOne K (.ref a.c_BadRecord) (.type "ValueError") = some true
  ik : InsK K a.c_Record
  wt : PySem.W.typeIn K (.ref a.c_Record) = some (.type "type")
  m_MOST_MACHINES : mg "MOST_MACHINES" = some (.int 7 a.t_MOST_MACHINES)
  m_MOST_PUTS : mg "MOST_PUTS" = some (.int 30 a.t_MOST_PUTS)
  n_isinstance : mg "isinstance" = none
  n_int : mg "int" = none
  n_bool : mg "bool" = none
  n_tuple : mg "tuple" = none
  n_len : mg "len" = none
  n_all : mg "all" = none
  n_enumerate : mg "enumerate" = none
  n_set : mg "set" = none
  n_list : mg "list" = none
  n_zip : mg "zip" = none
  n_range : mg "range" = none
  n_abs : mg "abs" = none
  n_min : mg "min" = none
  n_dict : mg "dict" = none
  n_ValueError : mg "ValueError" = none
end Mine
/-! ## K1 -/
section
open PySem L2 GA
local macro_rules
  | `(tactic| walk_at "w") => `(tactic| first
    | ((with_reducible refine' GA.w_var ?e ?_); (case e => exact rfl))
    | (with_reducible refine' GA.w_c ?_)
    | (with_reducible refine' GA.w_cons ?_)
    | (with_reducible refine' GA.w_nil ?_)
    | (with_reducible refine' GA.w_op ?_)
    | (with_reducible refine' GA.r_I0 ?_)
    | (with_reducible refine' GA.w_bl ?_)
    | (with_reducible refine' GA.w_seq ?_)
    | (with_reducible refine' GA.w_set ?_)
    | (with_reducible refine' GA.w_ret ?_)
    | (with_reducible refine' GA.w_ifS ?_)
    | (with_reducible refine' GA.w_test ?_)
    | (with_reducible refine' GA.w_tB ?_)
    | (with_reducible refine' GA.w_not ?_)
    | (with_reducible refine' GA.w_and ?_)
    | (with_reducible refine' GA.w_or ?_)
    | (with_reducible refine' GA.w_andV ?_)
    | (with_reducible refine' GA.w_orV ?_)
    | (with_reducible refine' GA.w_notV ?_)
    | (with_reducible refine' GA.w_blc ?_)
    | (with_reducible refine' GA.w_if ?_)
    | (with_reducible refine' GA.w_CB ?_)
    | (with_reducible refine' GA.w_call ?_)
    | (with_reducible refine' GA.w_tupN ?_)
    | (with_reducible refine' GA.w_lstN ?_)
    | (with_reducible refine' GA.w_chain ?_)
    | (with_reducible refine' GA.w_drop ?_)
    | (with_reducible refine' GA.w_next ?_)
    | (with_reducible refine' GA.w_break ?_)
    | (with_reducible refine' GA.w_un ?_)
    | (with_reducible refine' GA.r_U ?_)
    | (with_reducible refine' GA.r_eqI ?_)
    | (with_reducible refine' GA.r_neI ?_)
    | (with_reducible refine' GA.r_eqB ?_)
    | (with_reducible refine' GA.r_neB ?_)
    | (with_reducible refine' GA.w_fld ?_)
    | (with_reducible refine' GA.w_sfld ?_)
    | (with_reducible refine' GA.w_sl ?_)
    | (with_reducible refine' GA.w_part ?_)
    | (with_reducible refine' GA.w_noPart ?_)
    | (with_reducible refine' GA.w_inti ?_)
    | (with_reducible refine' GA.w_retN ?_)
    | (with_reducible refine' GA.w_gsub ?_)
    | (with_reducible refine' GA.w_gname ?_)
    | (with_reducible refine' L2.iteT ?_)
    | (with_reducible refine' L2.iteF ?_)
    | (with_reducible refine' GA.w_nt ?_)
    | (with_reducible refine' GA.w_nf ?_)
    | (with_reducible refine' GA.w_isN ?_)
    | (with_reducible refine' GA.w_notN ?_)
    | (with_reducible refine' GA.w_yes ?_)
    | (with_reducible refine' GA.w_lc ?_)
    | (with_reducible refine' GA.w_lc2 ?_)
    | (with_reducible refine' GA.w_iseq ?_)
    | (with_reducible refine' GA.w_make ?_)
    | (with_reducible refine' GA.w_for ?_)
    | (with_reducible refine' GA.w_rng1 ?_)
    | (with_reducible refine' GA.w_rng2 ?_)
    | (with_reducible refine' GA.w_itup ?_)
    | (with_reducible refine' GA.w_ilist ?_)
    | (with_reducible refine' GA.w_ienum ?_)
    | (with_reducible refine' GA.w_BM ?_)
    | (with_reducible refine' GA.w_BM0 ?_)
    | (with_reducible refine' GA.w_izip ?_)
    | (with_reducible refine' GA.w_asg ?_))
  | `(tactic| walk_at "wm") => `(tactic| first
    | ((with_reducible refine' GA.w_var ?e ?_); (case e => exact rfl))
    | (with_reducible refine' GA.w_c ?_)
    | (with_reducible refine' GA.w_cons ?_)
    | (with_reducible refine' GA.w_nil ?_)
    | (with_reducible refine' GA.w_op ?_)
    | (with_reducible refine' GA.r_I0 ?_)
    | (with_reducible refine' GA.w_bl ?_)
    | (with_reducible refine' GA.w_set ?_)
    | (with_reducible refine' GA.w_ret ?_)
    | (with_reducible refine' GA.w_ifS ?_)
    | (with_reducible refine' GA.w_test ?_)
    | (with_reducible refine' GA.w_tB ?_)
    | (with_reducible refine' GA.w_not ?_)
    | (with_reducible refine' GA.w_and ?_)
    | (with_reducible refine' GA.w_or ?_)
    | (with_reducible refine' GA.w_andV ?_)
    | (with_reducible refine' GA.w_orV ?_)
    | (with_reducible refine' GA.w_notV ?_)
    | (with_reducible refine' GA.w_blc ?_)
    | (with_reducible refine' GA.w_if ?_)
    | (with_reducible refine' GA.w_CB ?_)
    | (with_reducible refine' GA.w_call ?_)
    | (with_reducible refine' GA.w_tupN ?_)
    | (with_reducible refine' GA.w_lstN ?_)
    | (with_reducible refine' GA.w_chain ?_)
    | (with_reducible refine' GA.w_drop ?_)
    | (with_reducible refine' GA.w_next ?_)
    | (with_reducible refine' GA.w_break ?_)
    | (with_reducible refine' GA.w_un ?_)
    | (with_reducible refine' GA.r_U ?_)
    | (with_reducible refine' GA.r_eqI ?_)
    | (with_reducible refine' GA.r_neI ?_)
    | (with_reducible refine' GA.r_eqB ?_)
    | (with_reducible refine' GA.r_neB ?_)
    | (with_reducible refine' GA.w_fld ?_)
    | (with_reducible refine' GA.w_sfld ?_)
    | (with_reducible refine' GA.w_sl ?_)
    | (with_reducible refine' GA.w_part ?_)
    | (with_reducible refine' GA.w_noPart ?_)
    | (with_reducible refine' GA.w_inti ?_)
    | (with_reducible refine' GA.w_retN ?_)
    | (with_reducible refine' GA.w_gsub ?_)
    | (with_reducible refine' GA.w_gname ?_)
    | (with_reducible refine' L2.iteT ?_)
    | (with_reducible refine' L2.iteF ?_)
    | (with_reducible refine' GA.w_nt ?_)
    | (with_reducible refine' GA.w_nf ?_)
    | (with_reducible refine' GA.w_isN ?_)
    | (with_reducible refine' GA.w_notN ?_)
    | (with_reducible refine' GA.w_yes ?_)
    | (with_reducible refine' GA.w_lc ?_)
    | (with_reducible refine' GA.w_lc2 ?_)
    | (with_reducible refine' GA.w_iseq ?_)
    | (with_reducible refine' GA.w_make ?_)
    | (with_reducible refine' GA.w_for ?_)
    | (with_reducible refine' GA.w_rng1 ?_)
    | (with_reducible refine' GA.w_rng2 ?_)
    | (with_reducible refine' GA.w_itup ?_)
    | (with_reducible refine' GA.w_ilist ?_)
    | (with_reducible refine' GA.w_ienum ?_)
    | (with_reducible refine' GA.w_BM ?_)
    | (with_reducible refine' GA.w_BM0 ?_)
    | (with_reducible refine' GA.w_izip ?_)
    | (with_reducible refine' GA.w_asg ?_))
  | `(tactic| walk_at "ws") => `(tactic| repeat (walk_at "w"))
  | `(tactic| walk_at "wn") => `(tactic| repeat (walk_at "wm"))


namespace Mine
section
variable {P : Program} {w : World} {K : PySem.W.Frag} {mg : Str → Option Value} {base : Heap} {a : Ads}

theorem tyx_tup {H : Hp} {p : Addr} {xs : List V} (h : SqT K H p xs) : TyX K H (.ref p) (.type "tuple") := by
  rcases h with (h | ⟨o, h⟩) | ⟨o, its, n, h1, h2, _⟩
  · exact .base (.tup h)
  · exact .fTuple h
  · exact .kTuple h1 h2
theorem r_isi {x : V} {t : Value} {n : String} {b : Bool} {H : Hp} {Q : VK} (ty : TyX K H x t) (e : PySem.W.kitOne K t (.type n) = some b) (q : Q (.bl b) H) : rIsi K [x, .ty n] H Q := ⟨x, .ty n, t, .type n, b, rfl, .ty n, ty, e, q⟩
/-! ### any thing, judged -/
def isI : Tg → Bool
  | .int _ => true
  | _ => false
def btw (lo hi : Int) : Tg → Bool
  | .int i => decide (lo ≤ i) && decide (i ≤ hi)
  | _ => false
def blw (b : Int) : Tg → Bool
  | .int i => decide (0 ≤ i) && decide (i < b)
  | _ => false
def tsz (lo hi : Int) : Tg → Bool
  | .tup ts => decide (lo ≤ ts.length) && decide ((ts.length : Int) ≤ hi)
  | _ => false
def pr (b : Int) : Tg → Bool
  | .tup [.int x, .int y] => (blw b (.int x) && blw b (.int y)) && !decide (x = y)
  | _ => false
theorem isI_t {t : Tg} (e : isT "int" t = true) : isI t = !isT "bool" t := by
  cases t <;> first | rfl | exact Bool.noConfusion (show false = true from e)
theorem isI_f {t : Tg} (e : isT "int" t = false) : isI t = false := by
  cases t <;> first | rfl | exact Bool.noConfusion (show true = false from e)
theorem isI_int {C hd : Addr} {H : Hp} {v : V} {t : Tg} (h : Ab C hd H v t) (e : isI t = true) : ∃ i, t = .int i ∧ v = .int i := by
  cases h <;> first | exact ⟨_, rfl, rfl⟩ | exact Bool.noConfusion (show false = true from e)
theorem btw_f {lo hi : Int} {t : Tg} (e : isI t = false) : btw lo hi t = false := by
  cases t <;> first | rfl | exact Bool.noConfusion (show true = false from e)
def sp_is_integer (C : Addr) : Sp := fun vs H Q _ => ∃ (hd : Addr) (v : V) (t : Tg), vs = [v] ∧ Ab C hd H v t ∧ Q (.bl (isI t)) H
theorem ok_is_integer (T : Txt K mg a) : FnOk P w K mg base CX0 1 a.f_is_integer a.d_is_integer P_is_integer (sp_is_integer a.c_Record) := by
  refine T.F_is_integer.ok sc_is_integer (fun vs H Q E h => by obtain ⟨hd, v, t, rfl, _⟩ := h; rfl) (fun cdv A outer s H vs Q E hr h => ?_)
  obtain ⟨hd, v, t, rfl, ha, k⟩ := h
  refine ⟨_, (pss_one (ps_ret (pe_and (pe_callB call_isi (by rfl) T.n_isinstance (by decide +kernel) (pa_cons (pv 0) (pa_cons (pe_bltn (v := .ty "int") (u := .type "int") rfl T.n_int (by decide +kernel) rfl) pa_nil))) (pe_one (pe_not (pe_callB call_isi (by rfl) T.n_isinstance (by decide +kernel) (pa_cons (pv 0) (pa_cons (pe_bltn (v := .ty "bool") (u := .type "bool") rfl T.n_bool (by decide +kernel) rfl) pa_nil)))))))), ?_⟩
  walk_at "ws"
  refine ab_isi T.ik ha (.inl rfl) ?_
  walk_at "ws"
  refine w_ite (fun e => ?_) (fun e => ?_)
  · walk_at "ws"
    refine ab_isi T.ik ha (.inr (.inl rfl)) ?_
    walk_at "ws"
    rw [isI_t e] at k
    exact k
  · rw [isI_f e] at k
    exact k

def sp_is_between (C : Addr) : Sp := fun vs H Q _ => ∃ (lo hi : Int) (hd : Addr) (v : V) (t : Tg), vs = [.int lo, .int hi, v] ∧ Ab C hd H v t ∧ Q (.bl (btw lo hi t)) H
theorem ok_is_between (T : Txt K mg a) : FnOk P w K mg base CX0 2 a.f_is_between a.d_is_between P_is_between (sp_is_between a.c_Record) := by
  refine T.F_is_between.ok sc_is_between (fun vs H Q E h => by obtain ⟨lo, hi, hd, v, t, rfl, _⟩ := h; rfl) (fun cdv A outer s H vs Q E hr h => ?_)
  obtain ⟨lo, hi, hd, v, t, rfl, ha, k⟩ := h
  have G_is_integer : FnOk P w K mg base CX0 1 a.f_is_integer a.d_is_integer P_is_integer (sp_is_integer a.c_Record) := ok_is_integer T
  refine ⟨_, (pss_one (ps_ret (pe_and (pe_call (G_is_integer) (hr.mono (by omega)) rfl T.m_is_integer T.F_is_integer.kp T.b_is_integer .nil pass0 (pa_cons (pv 2) pa_nil)) (pe_one (pe_chain op_le op_le (pv 0) (pv 2) (pv 1)))))), ?_⟩
  walk_at "ws"
  refine ⟨hd, v, t, rfl, ha, ?_⟩
  walk_at "ws"
  refine w_ite (fun e => ?_) (fun e => ?_)
  · obtain ⟨i, rfl, rfl⟩ := isI_int ha e
    have k : Q (.bl (decide (lo ≤ i) && decide (i ≤ hi))) H := k
    walk_at "ws"
    refine w_ite (fun e => ?_) (fun e => ?_)
    · walk_at "ws"
      rw [e] at k
      exact k
    · rw [e] at k
      exact k
  · rw [btw_f e] at k
    exact k

def sp_is_below (C : Addr) : Sp := fun vs H Q _ => ∃ (b : Int) (hd : Addr) (v : V) (t : Tg), vs = [.int b, v] ∧ Ab C hd H v t ∧ Q (.bl (blw b t)) H
theorem ok_is_below (T : Txt K mg a) : FnOk P w K mg base CX0 3 a.f_is_below a.d_is_below P_is_below (sp_is_below a.c_Record) := by
  refine T.F_is_below.ok sc_is_below (fun vs H Q E h => by obtain ⟨b, hd, v, t, rfl, _⟩ := h; rfl) (fun cdv A outer s H vs Q E hr h => ?_)
  obtain ⟨b, hd, v, t, rfl, ha, k⟩ := h
  have G_is_between : FnOk P w K mg base CX0 2 a.f_is_between a.d_is_between P_is_between (sp_is_between a.c_Record) := ok_is_between T
  refine ⟨_, (pss_one (ps_ret (pe_call (G_is_between) (hr.mono (by omega)) rfl T.m_is_between T.F_is_between.kp T.b_is_between .nil pass0 (pa_cons pe_int (pa_cons (pe_op op_sub (pv 0) pe_int) (pa_cons (pv 1) pa_nil)))))), ?_⟩
  walk_at "ws"
  refine ⟨_, _, hd, v, t, rfl, ha, ?_⟩
  have e : btw 0 (b - 1) t = blw b t := by
    cases t <;> first | rfl | (simp only [btw, blw]; congr 1; rw [decide_eq_decide]; omega)
  rw [e]
  exact k

theorem tup_of {C hd : Addr} {H : Hp} {v : V} {t : Tg} (h : Ab C hd H v t) (e : isT "tuple" t = true) : ∃ p xs ts, v = .ref p ∧ t = .tup ts ∧ Rd H p (.tup xs) ∧ AbAll C hd H xs ts := by
  cases h with
  | tup r al => exact ⟨_, _, _, rfl, rfl, r, al⟩
  | non => exact Bool.noConfusion (show false = true from e)
  | bl _ => exact Bool.noConfusion (show false = true from e)
  | int _ => exact Bool.noConfusion (show false = true from e)
  | str _ => exact Bool.noConfusion (show false = true from e)
  | oth _ _ => exact Bool.noConfusion (show false = true from e)
theorem tsz_f {lo hi : Int} {t : Tg} (e : isT "tuple" t = false) : tsz lo hi t = false := by
  cases t <;> first | rfl | exact Bool.noConfusion (show true = false from e)
def sp_is_tuple_of (C : Addr) : Sp := fun vs H Q _ => ∃ (lo hi : Int) (hd : Addr) (v : V) (t : Tg), vs = [.int lo, .int hi, v] ∧ Ab C hd H v t ∧ Q (.bl (tsz lo hi t)) H
theorem ok_is_tuple_of (T : Txt K mg a) : FnOk P w K mg base CX0 1 a.f_is_tuple_of a.d_is_tuple_of P_is_tuple_of (sp_is_tuple_of a.c_Record) := by
  refine T.F_is_tuple_of.ok sc_is_tuple_of (fun vs H Q E h => by obtain ⟨lo, hi, hd, v, t, rfl, _⟩ := h; rfl) (fun cdv A outer s H vs Q E hr h => ?_)
  obtain ⟨lo, hi, hd, v, t, rfl, ha, k⟩ := h
  refine ⟨_, (pss_one (ps_ret (pe_and (pe_callB call_isi (by rfl) T.n_isinstance (by decide +kernel) (pa_cons (pv 2) (pa_cons (pe_bltn (v := .ty "tuple") (u := .type "tuple") rfl T.n_tuple (by decide +kernel) rfl) pa_nil))) (pe_one (pe_chain op_le op_le (pv 0) (pe_callB call_len_seq (by rfl) T.n_len (by decide +kernel) (pa_cons (pv 2) pa_nil)) (pv 1)))))), ?_⟩
  walk_at "ws"
  refine ab_isi T.ik ha (.inr (.inr (.inr rfl))) ?_
  walk_at "ws"
  refine w_ite (fun e => ?_) (fun e => ?_)
  · obtain ⟨p, xs, ts, rfl, rfl, r, al⟩ := tup_of ha e
    have k : Q (.bl (decide (lo ≤ ts.length) && decide ((ts.length : Int) ≤ hi))) H := k
    walk_at "ws"
    refine ⟨p, xs, rfl, .inr (.inl r), ?_⟩
    rw [al.length]
    walk_at "ws"
    refine w_ite (fun e => ?_) (fun e => ?_)
    · walk_at "ws"
      rw [e] at k
      exact k
    · rw [e] at k
      exact k
  · rw [tsz_f e] at k
    exact k

end
end Mine
/-! ## K2 -/


namespace Mine
section
variable {P : Program} {w : World} {K : PySem.W.Frag} {mg : Str → Option Value} {base : Heap} {a : Ads}

/-! ### are_below, is_unlike_pair -/
theorem bools_tg {H : Hp} {f : Tg → Bool} : ∀ {ts : List Tg} {xs : List V}, DpAll K H xs (ts.map fun t => PyData.bool (f t)) → xs = (ts.map f).map V.bl
  | [], _, h => by cases h; rfl
  | t :: ts, _, h => by
    cases h with
    | cons h1 h2 => cases h1; rw [bools_tg h2]; rfl
def sp_are_below (C : Addr) : Sp := fun vs H Q _ => ∃ (b : Int) (p hd : Addr) (xs : List V) (ts : List Tg), vs = [.int b, .ref p] ∧ Rd H p (.tup xs) ∧ AbAll C hd H xs ts ∧ ts.length ≤ 100000 ∧ ∀ H', G none H H' → Q (.bl (ts.all (blw b))) H'
theorem ok_are_below (T : Txt K mg a) : FnOk P w K mg base CX0 4 a.f_are_below a.d_are_below P_are_below (sp_are_below a.c_Record) := by
  refine T.F_are_below.ok sc_are_below (fun vs H Q E h => by obtain ⟨b, p, hd, xs, ts, rfl, _⟩ := h; rfl) (fun cdv A outer s H vs Q E hr h => ?_)
  obtain ⟨b, p, hd, xs, ts, rfl, hx, al, hz, k⟩ := h
  have G_is_below : FnOk P w K mg base CX0 3 a.f_is_below a.d_is_below P_is_below (sp_is_below a.c_Record) := ok_is_below T
  have hl := al.length
  refine ⟨_, (pss_one (ps_ret (pe_callB (cr_all rfl) (by rfl) T.n_all (by decide +kernel) (pa_cons (pe_lc (own := [("thing", 2)]) (g := (gName 2)) (tt := tYes) rfl sc_are_below.nd (pi_tup (pv 1)) (blkOk_by (N := N_are_below) (sc := defScope s_are_below) (by decide +kernel)) (fun _ _ _ _ _ => (pg_name (i := 2) sc_are_below.nd rfl (by first | exact Or.inl rfl | exact Or.inr rfl))) (fun _ _ _ _ _ => pts_nil) (fun _ _ _ _ _ => (pe_call (G_is_below) (hr.mono (by omega)) rfl T.m_is_below T.F_is_below.kp T.b_is_below .nil pass0 (pa_cons (pv 0) (pa_cons (pv 2) pa_nil))))) pa_nil)))), ?_⟩
  walk_at "ws"
  refine i_tup (.inl hx) ?_
  intro D hD
  refine lc_pure (K := K) (o := none) (walk_tup (xs := xs)) (by omega) hD (fun _ e => nomatch e) (fun i => ts[i]?.map fun t => .bool (blw b t)) (fun H' g => .inl (g.tups _ _ hx)) ?_ ?_
  · rintro i x H1 H2 hi g ⟨rfl, hx1⟩ Qy Qn ky kn
    obtain ⟨t, ht, ha⟩ := al.get hx1
    walk_at "ws"
    refine ⟨rfl, ?_⟩
    walk_at "ws"
    refine ⟨_, hd, x, t, rfl, ha.n g, ky _ _ _ G.refl (.bl _) rfl (by rw [ht]; rfl)⟩
  · intro ys H' g hD' hds _
    rw [hl, filterMap_range_map] at hds
    obtain rfl := bools_tg hds
    walk_at "ws"
    refine ⟨D, ts.map (blw b), rfl, SqL.of hD', ?_⟩
    have e : (ts.map (blw b)).all id = ts.all (blw b) := by rw [List.all_map]; rfl
    rw [e]
    exact k _ g

theorem blw_int {b : Int} {t : Tg} (e : blw b t = true) : ∃ i, t = .int i := by
  cases t with
  | int i => exact ⟨i, rfl⟩
  | tup _ => exact Bool.noConfusion (show false = true from e)
  | non => exact Bool.noConfusion (show false = true from e)
  | bl _ => exact Bool.noConfusion (show false = true from e)
  | str _ => exact Bool.noConfusion (show false = true from e)
  | oth => exact Bool.noConfusion (show false = true from e)

end
end Mine
/-! ## K3 -/


namespace Mine
section
variable {P : Program} {w : World} {K : PySem.W.Frag} {mg : Str → Option Value} {base : Heap} {a : Ads}

/-! ### diaries -/
def tgI (d : List Int) : Tg := .tup (d.map Tg.int)
def tgDD (ds : List (List Int)) : Tg := .tup (ds.map tgI)
def tgInts : List Tg → List Int
  | [] => []
  | .int i :: ts => i :: tgInts ts
  | _ :: ts => 0 :: tgInts ts
theorem ints_map (d : List Int) : tgInts (d.map Tg.int) = d := by
  induction d with
  | nil => rfl
  | cons i d ih => show i :: tgInts (d.map Tg.int) = _; rw [ih]
theorem all_ints {n : Int} : ∀ {ts : List Tg}, ts.all (blw n) = true → ts = (tgInts ts).map Tg.int
  | [], _ => rfl
  | t :: ts, h => by
    rw [List.all_cons, Bool.and_eq_true] at h
    obtain ⟨i, rfl⟩ := blw_int h.1
    show _ = Tg.int i :: (tgInts ts).map Tg.int
    rw [← all_ints h.2]
def diaT (n : Int) (ts : List Tg) : Bool := ts.all (blw n) && decide (tgInts ts).Nodup
def dia (n : Int) : Tg → Bool
  | .tup ts => diaT n ts
  | _ => false
theorem dia_f {n : Int} {t : Tg} (e : isT "tuple" t = false) : dia n t = false := by
  cases t <;> first | rfl | exact Bool.noConfusion (show true = false from e)
theorem blw_len {n : Int} {ts : List Tg} (h : (tgInts ts).Nodup) (e : ts.all (blw n) = true) : (tgInts ts).length ≤ n.toNat := by
  have mem : ∀ x ∈ tgInts ts, 0 ≤ x ∧ x < n := fun x hx => by
    have m : Tg.int x ∈ ts := by rw [all_ints e]; exact List.mem_map_of_mem hx
    have := List.all_eq_true.mp e _ m
    simpa [blw] using this
  have := List.Nodup.length_le_of_subset (l₂ := (List.range n.toNat).map fun (i : Nat) => (i : Int)) h fun x hx => by
    have := mem x hx
    exact List.mem_map.mpr ⟨x.toNat, List.mem_range.mpr (by omega), by omega⟩
  simpa using this
def sp_is_diary (C : Addr) : Sp := fun vs H Q _ => ∃ (n : Int) (hd : Addr) (v : V) (t : Tg), vs = [.int n, v] ∧ Ab C hd H v t ∧ smT t = true ∧ ∀ H', G none H H' → Q (.bl (dia n t)) H'
theorem ok_is_diary (T : Txt K mg a) : FnOk P w K mg base CX0 5 a.f_is_diary a.d_is_diary P_is_diary (sp_is_diary a.c_Record) := by
  refine T.F_is_diary.ok sc_is_diary (fun vs H Q E h => by obtain ⟨n, hd, v, t, rfl, _⟩ := h; rfl) (fun cdv A outer s H vs Q E hr h => ?_)
  obtain ⟨n, hd, v, t, rfl, ha, hz, k⟩ := h
  have G_are_below : FnOk P w K mg base CX0 4 a.f_are_below a.d_are_below P_are_below (sp_are_below a.c_Record) := ok_are_below T
  refine ⟨_, (pss_one (ps_ret (pe_and (pe_callB call_isi (by rfl) T.n_isinstance (by decide +kernel) (pa_cons (pv 1) (pa_cons (pe_bltn (v := .ty "tuple") (u := .type "tuple") rfl T.n_tuple (by decide +kernel) rfl) pa_nil))) (pe_and (pe_call (G_are_below) (hr.mono (by omega)) rfl T.m_are_below T.F_are_below.kp T.b_are_below .nil pass0 (pa_cons (pv 0) (pa_cons (pv 1) pa_nil))) (pe_one (pe_cmpR op_eq (pe_lenSetTG rfl (by rfl) T.n_len (by rfl) T.n_set (pv 1)) (pe_callB call_len_seq (by rfl) T.n_len (by decide +kernel) (pa_cons (pv 1) pa_nil)) (nomark _))))))), ?_⟩
  walk_at "ws"
  refine ab_isi T.ik ha (.inr (.inr (.inr rfl))) ?_
  walk_at "ws"
  refine w_ite (fun e => ?_) (fun e => ?_)
  · obtain ⟨p, xs, ts, rfl, rfl, r, al⟩ := tup_of ha e
    have hz := (smT_tup hz).1
    walk_at "ws"
    refine ⟨n, p, hd, xs, ts, rfl, r, al, by omega, fun H1 g1 => ?_⟩
    walk_at "ws"
    have k := k H1 g1
    refine w_ite (fun e => ?_) (fun e => ?_)
    · have ei := all_ints e
      have ex : xs = (tgInts ts).map V.int := by
        rw [ei] at al
        exact al.ints_inv
      have li : (tgInts ts).length = ts.length := by
        have := congrArg List.length ei
        simpa using this.symm
      walk_at "ws"
      refine w_lenSetTG ?_
      walk_at "ws"
      refine ⟨p, tgInts ts, rfl, by rw [← ex]; exact .inl (g1.tups _ _ r), by omega, fun j hj => ?_⟩
      walk_at "ws"
      refine ⟨p, _, rfl, .inr (.inl (g1.tups _ _ r)), ?_⟩
      rw [al.length]
      walk_at "ws"
      have ed : dia n (.tup ts) = decide ((j : Int) = ts.length) := by
        show (ts.all (blw n) && decide (tgInts ts).Nodup) = _
        rw [e, Bool.true_and, decide_eq_decide, ← hj, li]
        omega
      rw [ed] at k
      exact k
    · have ed : dia n (.tup ts) = false := by
        show (ts.all (blw n) && decide (tgInts ts).Nodup) = _
        rw [e]; rfl
      rw [ed] at k
      exact k
  · have k := k H G.refl
    rw [dia_f e] at k
    exact k

end
end Mine
/-! ## K4 -/


namespace Mine
section
variable {P : Program} {w : World} {K : PySem.W.Frag} {mg : Str → Option Value} {base : Heap} {a : Ads}

/-! ### a record, made or refused -/
def sp_BadRecord_init (C : Addr) : Sp := fun vs H Q _ => ∃ (x : Addr) (v u : V), vs = [.ref x, v, u] ∧ H x = some (exo x C none) ∧ ∀ dx H', dx ≠ x → H dx = none → (∀ b o, b ≠ x → H b = some o → H' b = some o) → H' x = some (exo x C (some dx)) → H' dx = some (exd dx [(("at" : Str), u), (("part" : Str), v)]) → (∀ b, b ≠ x → b ≠ dx → H' b = H b) → Q .non H'
theorem ok_BadRecord_init (T : Txt K mg a) : FnOk P w K mg base CX0 1 a.f_BadRecord_init a.d_BadRecord_init P_BadRecord_init (sp_BadRecord_init a.c_BadRecord) := by
  refine T.F_BadRecord_init.ok sc_BadRecord_init (fun vs H Q E h => by obtain ⟨x, v, u, rfl, _⟩ := h; rfl) (fun cdv A outer s H vs Q E hr h => ?_)
  obtain ⟨x, v, u, rfl, hx, k⟩ := h
  refine ⟨_, (pss_cons (ps_ost (pv 0) (pv 1)) (pss_one (ps_ost (pv 0) (pv 2)))), ?_⟩
  refine ⟨_, rfl, _, rfl, x, a.c_BadRecord, rfl, T.ox, T.xp, .inl ⟨hx, fun dx h1 h2 => ?_⟩⟩
  refine ⟨_, rfl, _, rfl, x, a.c_BadRecord, rfl, T.ox, T.xa, .inr ⟨dx, _, upd_same, by rw [upd_ne h2]; exact upd_same, by simp, ?_⟩⟩
  refine k dx _ h2 h1 (fun b o n e => ?_) (by rw [upd_ne h2.symm]; exact upd_same) upd_same (fun b n1 n2 => by rw [upd_ne n2, upd_ne n1, upd_ne n2])
  have n1 : b ≠ dx := ne_of_none e h1
  rw [upd_ne n1, upd_ne n, upd_ne n1]
  exact e
theorem w_mkO {C : Addr} {sp : Sp} {dvs : List V} {ta : TA} {σ : L2.St} {H : Hp} {Q : XK} (q : ta σ H fun vs H1 => vs.length ≤ 1000 ∧ ∀ x, H1 x = none → sp (.ref x :: (vs ++ dvs)) (upd H1 x (exo x C none))
    (fun v H2 => v = .non ∧ ∃ (d : Addr) (fs : List (Str × V)), H2 x = some (exo x C (some d)) ∧ H2 d = some (exd d fs) ∧ H1 d = none ∧ Q (.ref C) (some d) (upd (del H2 x) d (.xd fs))) (fun _ _ _ => False)) : tMkO C sp dvs ta σ H Q := q
def xfs (v u : V) : List (Str × V) := [(("at" : Str), u), (("part" : Str), v)]
theorem bad_rec {C : Addr} {W : XK} {H H1 : Hp} {v u : V} (g : G none H H1) (h : ∀ d H', G none H H' → H' d = some (.xd (xfs v u)) → W (.ref C) (some d) H') :
    [v, u].length ≤ 1000 ∧ ∀ x, H1 x = none → sp_BadRecord_init C (.ref x :: ([v, u] ++ [])) (upd H1 x (exo x C none))
    (fun u H2 => u = .non ∧ ∃ (d : Addr) (fs : List (Str × V)), H2 x = some (exo x C (some d)) ∧ H2 d = some (exd d fs) ∧ H1 d = none ∧ W (.ref C) (some d) (upd (del H2 x) d (.xd fs))) (fun _ _ _ => False) := by
  refine ⟨by simp, fun x hx => ⟨x, v, u, rfl, upd_same, fun dx H2 h2 h1 kk hx2 hd2 _ => ⟨rfl, dx, _, hx2, hd2, by rw [upd_ne h2] at h1; exact h1, ?_⟩⟩⟩
  have h1' : H1 dx = none := by rw [upd_ne h2] at h1; exact h1
  refine h dx _ (g.trans (G.of_all fun b u e => ?_)) upd_same
  have n1 : b ≠ dx := ne_of_none e h1'
  have n2 : b ≠ x := ne_of_none e hx
  rw [upd_ne n1, del_ne n2]
  exact kk b u n2 (by rw [upd_ne n2]; exact e)
def itemsT : Tg → List Tg
  | .tup ts => ts
  | _ => []
def intT : Tg → Int
  | .int i => i
  | _ => 0
def okW (b : Int) (wts : List Tg) (i : Nat) : Bool := blw b (wts.getD i .non)
def okD (n : Int) (dts : List Tg) (i : Nat) : Bool := dia n (dts.getD i .non)
def okP (wts dts : List Tg) (p : Nat) : Bool := decide ((p : Int) ∈ tgInts (itemsT (dts.getD (intT (wts.getD p .non)).toNat .non)))
/-- the part that is refused, none if both are right -/
def due (tw td : Tg) : Option (Str × Int) :=
  if tsz 1 7 td then if tsz 0 30 tw then
    match fw (okW (itemsT td).length (itemsT tw)) (itemsT tw).length with
    | some i => some ("writers", (i : Nat))
    | none => match fw (okD (itemsT tw).length (itemsT td)) (itemsT td).length with
      | some i => some ("diaries", (i : Nat))
      | none => match fw (okP (itemsT tw) (itemsT td)) (itemsT tw).length with
        | some i => some ("put", (i : Nat))
        | none => none
    else some ("writers", -1) else some ("diaries", -1)
theorem due_1 {tw td : Tg} (e : tsz 1 7 td = false) : due tw td = some (("diaries" : Str), (-1 : Int)) := by unfold due; rw [e]; rfl
theorem due_2 {tw td : Tg} (e : tsz 1 7 td = true) (f : tsz 0 30 tw = false) : due tw td = some (("writers" : Str), (-1 : Int)) := by unfold due; rw [e, f]; rfl
theorem due_3 {wts dts : List Tg} (e : tsz 1 7 (.tup dts) = true) (f : tsz 0 30 (.tup wts) = true) {i : Nat} (h : fw (okW dts.length wts) wts.length = some i) : due (.tup wts) (.tup dts) = some (("writers" : Str), ((i : Nat) : Int)) := by
  unfold due; rw [e, f, if_pos rfl, if_pos rfl]; show (match fw (okW dts.length wts) wts.length with | some i => _ | none => _) = _; rw [h]
theorem due_4 {wts dts : List Tg} (e : tsz 1 7 (.tup dts) = true) (f : tsz 0 30 (.tup wts) = true) (h : fw (okW dts.length wts) wts.length = none) {i : Nat} (h2 : fw (okD wts.length dts) dts.length = some i) : due (.tup wts) (.tup dts) = some (("diaries" : Str), ((i : Nat) : Int)) := by
  unfold due; rw [e, f, if_pos rfl, if_pos rfl]; show (match fw (okW dts.length wts) wts.length with | some i => _ | none => match fw (okD wts.length dts) dts.length with | some i => _ | none => _) = _; rw [h, h2]
theorem due_5 {wts dts : List Tg} (e : tsz 1 7 (.tup dts) = true) (f : tsz 0 30 (.tup wts) = true) (h : fw (okW dts.length wts) wts.length = none) (h2 : fw (okD wts.length dts) dts.length = none) {i : Nat} (h3 : fw (okP wts dts) wts.length = some i) : due (.tup wts) (.tup dts) = some (("put" : Str), ((i : Nat) : Int)) := by
  unfold due; rw [e, f, if_pos rfl, if_pos rfl]; show (match fw (okW dts.length wts) wts.length with | some i => _ | none => match fw (okD wts.length dts) dts.length with | some i => _ | none => match fw (okP wts dts) wts.length with | some i => _ | none => _) = _; rw [h, h2, h3]
theorem due_6 {wts dts : List Tg} (e : tsz 1 7 (.tup dts) = true) (f : tsz 0 30 (.tup wts) = true) (h : fw (okW dts.length wts) wts.length = none) (h2 : fw (okD wts.length dts) dts.length = none) (h3 : fw (okP wts dts) wts.length = none) : due (.tup wts) (.tup dts) = none := by
  unfold due; rw [e, f, if_pos rfl, if_pos rfl]; show (match fw (okW dts.length wts) wts.length with | some i => _ | none => match fw (okD wts.length dts) dts.length with | some i => _ | none => match fw (okP wts dts) wts.length with | some i => _ | none => _) = _; rw [h, h2, h3]
theorem getD_of {ts : List Tg} {i : Nat} {t : Tg} (h : ts[i]? = some t) : ts.getD i .non = t := by rw [List.getD_eq_getElem?_getD, h]; rfl
theorem tsz_tup {lo hi : Int} {C hd : Addr} {H : Hp} {v : V} {t : Tg} (h : Ab C hd H v t) (e : tsz lo hi t = true) : ∃ p xs ts, v = .ref p ∧ t = .tup ts ∧ Rd H p (.tup xs) ∧ AbAll C hd H xs ts := by
  cases h with
  | tup r al => exact ⟨_, _, _, rfl, rfl, r, al⟩
  | non => exact Bool.noConfusion (show false = true from e)
  | bl _ => exact Bool.noConfusion (show false = true from e)
  | int _ => exact Bool.noConfusion (show false = true from e)
  | str _ => exact Bool.noConfusion (show false = true from e)
  | oth _ _ => exact Bool.noConfusion (show false = true from e)
theorem dia_tup {n : Int} {C hd : Addr} {H : Hp} {v : V} {t : Tg} (h : Ab C hd H v t) (e : dia n t = true) : ∃ p d, v = .ref p ∧ t = tgI d ∧ Rd H p (.tup (d.map V.int)) ∧ d.Nodup ∧ ∀ x ∈ d, 0 ≤ x ∧ x < n := by
  cases h with
  | @tup _ _ ts r al =>
    have e : (ts.all (blw n) && decide (tgInts ts).Nodup) = true := e
    rw [Bool.and_eq_true, decide_eq_true_eq] at e
    have ei := all_ints e.1
    rw [ei] at al
    rw [al.ints_inv] at r
    refine ⟨_, tgInts ts, rfl, by unfold tgI; rw [← ei], r, e.2, fun x hx => ?_⟩
    have m : Tg.int x ∈ ts := by rw [ei]; exact List.mem_map_of_mem hx
    have := List.all_eq_true.mp e.1 _ m
    simpa [blw] using this
  | non => exact Bool.noConfusion (show false = true from e)
  | bl _ => exact Bool.noConfusion (show false = true from e)
  | int _ => exact Bool.noConfusion (show false = true from e)
  | str _ => exact Bool.noConfusion (show false = true from e)
  | oth _ _ => exact Bool.noConfusion (show false = true from e)
theorem fw_all {f : Nat → Bool} {n : Nat} (h : fw f n = none) : ∀ j, j < n → f j = true := fun j hj => by
  have := List.find?_eq_none.mp h j (List.mem_range.mpr hj)
  simpa using this
theorem inV_ints (d : List Int) (z : Int) : inV (.int z) (d.map V.int) = decide (z ∈ d) := by
  unfold inV
  rw [List.any_map, Bool.eq_iff_iff, List.any_eq_true, decide_eq_true_iff]
  constructor
  · rintro ⟨y, hy, e⟩
    have e : y = z := by simpa [eqV] using e
    exact e ▸ hy
  · intro h
    exact ⟨_, h, by simp [eqV]⟩
def sp_check_record (C CB : Addr) : Sp := fun vs H Q E => ∃ (hd : Addr) (wv dv : V) (tw td : Tg), vs = [wv, dv] ∧ Ab C hd H wv tw ∧ Ab C hd H dv td ∧ smT td = true ∧
  (due tw td = none → ∀ H', G none H H' → Q .non H') ∧
  (∀ x y, due tw td = some (x, y) → ∀ d H', G none H H' → H' d = some (.xd (xfs (.str x) (.int y))) → E (.ref CB) (some d) H')
theorem ok_check_record (T : Txt K mg a) : FnOk P w K mg base (L2.CX P w) 6 a.f_check_record a.d_check_record P_check_record (sp_check_record a.c_Record a.c_BadRecord) := by
  refine T.F_check_record.okX sc_check_record (fun vs H Q E h => by obtain ⟨hd, wv, dv, tw, td, rfl, _⟩ := h; rfl) (fun cdv A outer s H vs Q E hr h => ?_)
  obtain ⟨hd, wv, dv, tw, td, rfl, hw, hdd, sm, kok, kbad⟩ := h
  have G_is_tuple_of : FnOk P w K mg base CX0 1 a.f_is_tuple_of a.d_is_tuple_of P_is_tuple_of (sp_is_tuple_of a.c_Record) := ok_is_tuple_of T
  have G_is_below : FnOk P w K mg base CX0 3 a.f_is_below a.d_is_below P_is_below (sp_is_below a.c_Record) := ok_is_below T
  have G_is_diary : FnOk P w K mg base CX0 5 a.f_is_diary a.d_is_diary P_is_diary (sp_is_diary a.c_Record) := ok_is_diary T
  have G_BadRecord_init : FnOk P w K mg base CX0 1 a.f_BadRecord_init a.d_BadRecord_init P_BadRecord_init (sp_BadRecord_init a.c_BadRecord) := ok_BadRecord_init T
  refine ⟨_, (pss_cons (ps_if (pt_not (pt_val (pe_call (G_is_tuple_of) (hr.mono (by omega)) rfl T.m_is_tuple_of T.F_is_tuple_of.kp T.b_is_tuple_of .nil pass0 (pa_cons pe_int (pa_cons (pe_glob (v := .int 7) rfl T.m_MOST_MACHINES ⟨_, rfl⟩) (pa_cons (pv 1) pa_nil))))))
    (pss_one (ps_raise rfl (takes_of rfl rfl rfl rfl) (pmk_oex T.ox T.xi T.xt G_BadRecord_init (hr.mono (by omega)) T.b_BadRecord_init .nil pass0 rfl T.m_BadRecord (pa_cons pe_str (pa_cons (pe_un un_neg pe_int) pa_nil)))))
    pss_nil)
  (pss_cons (ps_if (pt_not (pt_val (pe_call (G_is_tuple_of) (hr.mono (by omega)) rfl T.m_is_tuple_of T.F_is_tuple_of.kp T.b_is_tuple_of .nil pass0 (pa_cons pe_int (pa_cons (pe_glob (v := .int 30) rfl T.m_MOST_PUTS ⟨_, rfl⟩) (pa_cons (pv 0) pa_nil))))))
    (pss_one (ps_raise rfl (takes_of rfl rfl rfl rfl) (pmk_oex T.ox T.xi T.xt G_BadRecord_init (hr.mono (by omega)) T.b_BadRecord_init .nil pass0 rfl T.m_BadRecord (pa_cons pe_str (pa_cons (pe_un un_neg pe_int) pa_nil)))))
    pss_nil)
  (pss_cons (ps_for (passes_of rfl) rfl (pi_enumT (by rfl) T.n_enumerate (pa_cons (pv 0) pa_nil)) (pg_tup rfl (pgs_cons (pg_name (i := 2) sc_check_record.nd rfl (Or.inl rfl)) (pgs_cons (pg_name (i := 3) sc_check_record.nd rfl (Or.inl rfl)) pgs_nil)))
    (pss_one (ps_if (pt_not (pt_val (pe_call (G_is_below) (hr.mono (by omega)) rfl T.m_is_below T.F_is_below.kp T.b_is_below .nil pass0 (pa_cons (pe_callB call_len_seq (by rfl) T.n_len (by decide +kernel) (pa_cons (pv 1) pa_nil)) (pa_cons (pv 3) pa_nil)))))
    (pss_one (ps_raise rfl (takes_of rfl rfl rfl rfl) (pmk_oex T.ox T.xi T.xt G_BadRecord_init (hr.mono (by omega)) T.b_BadRecord_init .nil pass0 rfl T.m_BadRecord (pa_cons pe_str (pa_cons (pv 2) pa_nil)))))
    pss_nil)))
  (pss_cons (ps_for (passes_of rfl) rfl (pi_enumT (by rfl) T.n_enumerate (pa_cons (pv 1) pa_nil)) (pg_tup rfl (pgs_cons (pg_name (i := 4) sc_check_record.nd rfl (Or.inl rfl)) (pgs_cons (pg_name (i := 5) sc_check_record.nd rfl (Or.inl rfl)) pgs_nil)))
    (pss_one (ps_if (pt_not (pt_val (pe_call (G_is_diary) (hr.mono (by omega)) rfl T.m_is_diary T.F_is_diary.kp T.b_is_diary .nil pass0 (pa_cons (pe_callB call_len_seq (by rfl) T.n_len (by decide +kernel) (pa_cons (pv 0) pa_nil)) (pa_cons (pv 5) pa_nil)))))
    (pss_one (ps_raise rfl (takes_of rfl rfl rfl rfl) (pmk_oex T.ox T.xi T.xt G_BadRecord_init (hr.mono (by omega)) T.b_BadRecord_init .nil pass0 rfl T.m_BadRecord (pa_cons pe_str (pa_cons (pv 4) pa_nil)))))
    pss_nil)))
  (pss_one (ps_for (passes_of rfl) rfl (pi_enumT (by rfl) T.n_enumerate (pa_cons (pv 0) pa_nil)) (pg_tup rfl (pgs_cons (pg_name (i := 2) sc_check_record.nd rfl (Or.inl rfl)) (pgs_cons (pg_name (i := 3) sc_check_record.nd rfl (Or.inl rfl)) pgs_nil)))
    (pss_one (ps_if (pt_cmpR op_notIn_seq (pv 2) (pe_ix ix_tup (pv 1) (pv 3) (fun _ _ => rfl)) (by rfl))
    (pss_one (ps_raise rfl (takes_of rfl rfl rfl rfl) (pmk_oex T.ox T.xi T.xt G_BadRecord_init (hr.mono (by omega)) T.b_BadRecord_init .nil pass0 rfl T.m_BadRecord (pa_cons pe_str (pa_cons (pv 2) pa_nil)))))
    pss_nil)))))))), ?_⟩
  walk_at "ws"
  refine ⟨1, 7, hd, dv, td, rfl, hdd, ?_⟩
  walk_at "ws"
  refine w_ite (fun e => ?_) (fun e => ?_)
  · have e : tsz 1 7 td = false := by simpa using e
    refine w_mkO ?_
    walk_at "ws"
    exact bad_rec (v := .str "diaries") (u := .int (-1)) G.refl fun d H' g h => kbad _ _ (due_1 e) d H' g h
  have e1 : tsz 1 7 td = true := by simpa using e
  obtain ⟨dp, dxs, dts, rfl, rfl, rd, ad⟩ := tsz_tup hdd e1
  walk_at "ws"
  refine ⟨0, 30, hd, wv, tw, rfl, hw, ?_⟩
  walk_at "ws"
  refine w_ite (fun e => ?_) (fun e => ?_)
  · have e : tsz 0 30 tw = false := by simpa using e
    refine w_mkO ?_
    walk_at "ws"
    exact bad_rec (v := .str "writers") (u := .int (-1)) G.refl fun d H' g h => kbad _ _ (due_2 e1 e) d H' g h
  have e2 : tsz 0 30 tw = true := by simpa using e
  obtain ⟨wp, wxs, wts, rfl, rfl, rw_, aw⟩ := tsz_tup hw e2
  have lw := aw.length
  have ld := ad.length
  walk_at "ws"
  refine i_enum (.inl rw_) ?_
  refine for_it (walk_enumT (xs := wxs)) (fun i σ H1 => G none H H1 ∧ (∀ j, j < i → okW dts.length wts j = true) ∧ ∃ u2 u3 u4 u5, σ = [some (.ref wp), some (.ref dp), u2, u3, u4, u5]) ⟨G.refl, (fun _ h => absurd h (Nat.not_lt_zero _)), _, _, _, _, rfl⟩ (fun i σ H1 _ h => .inl (h.1.tups _ _ rw_)) ?_ ?_
  · rintro i x σ H1 H2 hi ⟨g1, ho, u2, u3, u4, u5, rfl⟩ ⟨t, y, z, rfl, ht, rfl, ey, ez⟩
    cases Option.some.inj ey
    have g2 : G none H1 (upd H1 t (.tup [.int (i : Nat), z])) := G.alloc ht
    refine ⟨t, _, rfl, SqT.of upd_same, rfl, ?_⟩
    refine ⟨_, _, rfl, ?_⟩
    walk_at "ws"
    refine ⟨_, _, rfl, ?_⟩
    walk_at "ws"
    refine ⟨rfl, ?_⟩
    generalize upd H1 t (.tup [.int (i : Nat), z]) = H2 at g2 ⊢
    have g02 := g1.trans g2
    have hlt : i < wts.length := by omega
    obtain ⟨tg, htg, hz⟩ := aw.get ez
    have egi := getD_of htg
    walk_at "ws"
    refine ⟨dp, dxs, rfl, .inr (.inl (g02.tups _ _ rd)), ?_⟩
    rw [ld]
    walk_at "ws"
    refine ⟨(dts.length : Int), hd, z, tg, rfl, hz.n g02, ?_⟩
    have eo : okW dts.length wts i = blw dts.length tg := by unfold okW; rw [egi]
    rw [← eo]
    walk_at "ws"
    refine w_ite (fun e => ?_) (fun e => ?_)
    · have e : okW dts.length wts i = false := by simpa using e
      refine w_mkO ?_
      walk_at "ws"
      exact bad_rec (v := .str "writers") (u := .int (i : Nat)) g02 fun d H' g h => kbad _ _ (due_3 e1 e2 (fw_some hlt ho e)) d H' g h
    · have e : okW dts.length wts i = true := by simpa using e
      walk_at "ws"
      refine ⟨g02, fun j hj => ?_, _, _, _, _, rfl⟩
      rcases Nat.lt_succ_iff_lt_or_eq.mp hj with q | q
      · exact ho j q
      · rw [q]; exact e
  rintro σ H1 ⟨g1, ho, u2, u3, u4, u5, rfl⟩
  have f3 : fw (okW dts.length wts) wts.length = none := fw_none (by rw [← lw]; exact ho)
  clear ho
  walk_at "ws"
  refine i_enum (.inl (g1.tups _ _ rd)) ?_
  refine for_it (walk_enumT (xs := dxs)) (fun i σ H1 => G none H H1 ∧ (∀ j, j < i → okD wts.length dts j = true) ∧ ∃ u2 u3 u4 u5, σ = [some (.ref wp), some (.ref dp), u2, u3, u4, u5]) ⟨g1, (fun _ h => absurd h (Nat.not_lt_zero _)), _, _, _, _, rfl⟩ (fun i σ H1 _ h => .inl (h.1.tups _ _ rd)) ?_ ?_
  · rintro i x σ H1 H2 hi ⟨g1, ho, u2, u3, u4, u5, rfl⟩ ⟨t, y, z, rfl, ht, rfl, ey, ez⟩
    cases Option.some.inj ey
    have g2 : G none H1 (upd H1 t (.tup [.int (i : Nat), z])) := G.alloc ht
    refine ⟨t, _, rfl, SqT.of upd_same, rfl, ?_⟩
    refine ⟨_, _, rfl, ?_⟩
    walk_at "ws"
    refine ⟨_, _, rfl, ?_⟩
    walk_at "ws"
    refine ⟨rfl, ?_⟩
    generalize upd H1 t (.tup [.int (i : Nat), z]) = H2 at g2 ⊢
    have g02 := g1.trans g2
    have hlt : i < dts.length := by omega
    obtain ⟨tg, htg, hz⟩ := ad.get ez
    have egi := getD_of htg
    walk_at "ws"
    refine ⟨wp, wxs, rfl, .inr (.inl (g02.tups _ _ rw_)), ?_⟩
    rw [lw]
    walk_at "ws"
    refine ⟨(wts.length : Int), hd, z, tg, rfl, hz.n g02, (smT_tup sm).2 _ (List.mem_of_getElem? htg), fun H3 g3 => ?_⟩
    have eo : okD wts.length dts i = dia wts.length tg := by unfold okD; rw [egi]
    rw [← eo]
    have g03 := g02.trans g3
    walk_at "ws"
    refine w_ite (fun e => ?_) (fun e => ?_)
    · have e : okD wts.length dts i = false := by simpa using e
      refine w_mkO ?_
      walk_at "ws"
      exact bad_rec (v := .str "diaries") (u := .int (i : Nat)) g03 fun d H' g h => kbad _ _ (due_4 e1 e2 f3 (fw_some hlt ho e)) d H' g h
    · have e : okD wts.length dts i = true := by simpa using e
      walk_at "ws"
      refine ⟨g03, fun j hj => ?_, _, _, _, _, rfl⟩
      rcases Nat.lt_succ_iff_lt_or_eq.mp hj with q | q
      · exact ho j q
      · rw [q]; exact e
  rintro σ H1 ⟨g1, ho, u2, u3, u4, u5, rfl⟩
  have f4 : fw (okD wts.length dts) dts.length = none := fw_none (by rw [← ld]; exact ho)
  clear ho
  walk_at "ws"
  refine i_enum (.inl (g1.tups _ _ rw_)) ?_
  refine for_it (walk_enumT (xs := wxs)) (fun i σ H1 => G none H H1 ∧ (∀ j, j < i → okP wts dts j = true) ∧ ∃ u2 u3 u4 u5, σ = [some (.ref wp), some (.ref dp), u2, u3, u4, u5]) ⟨g1, (fun _ h => absurd h (Nat.not_lt_zero _)), _, _, _, _, rfl⟩ (fun i σ H1 _ h => .inl (h.1.tups _ _ rw_)) ?_ ?_
  · rintro i x σ H1 H2 hi ⟨g1, ho, u2, u3, u4, u5, rfl⟩ ⟨t, y, z, rfl, ht, rfl, ey, ez⟩
    cases Option.some.inj ey
    have g2 : G none H1 (upd H1 t (.tup [.int (i : Nat), z])) := G.alloc ht
    refine ⟨t, _, rfl, SqT.of upd_same, rfl, ?_⟩
    refine ⟨_, _, rfl, ?_⟩
    walk_at "ws"
    refine ⟨_, _, rfl, ?_⟩
    walk_at "ws"
    refine ⟨rfl, ?_⟩
    generalize upd H1 t (.tup [.int (i : Nat), z]) = H2 at g2 ⊢
    have g02 := g1.trans g2
    have hlt : i < wts.length := by omega
    obtain ⟨tg, htg, hz⟩ := aw.get ez
    have egi := getD_of htg
    have bw : blw dts.length tg = true := by
      have := fw_all f3 i hlt
      unfold okW at this
      rw [egi] at this
      exact this
    obtain ⟨x0, rfl⟩ := blw_int bw
    obtain rfl := hz.int_inv
    have bx : 0 ≤ x0 ∧ x0 < dts.length := by simpa [blw] using bw
    have hdx : dts[x0.toNat]? = some (dts.getD x0.toNat .non) := by rw [List.getD_eq_getElem?_getD, List.getElem?_eq_getElem (by omega : x0.toNat < dts.length)]; rfl
    obtain ⟨vd, hvd, had⟩ := ad.get' hdx
    have dd := fw_all f4 x0.toNat (by omega)
    obtain ⟨q, d, rfl, ed, rq, nd, _⟩ := dia_tup had dd
    walk_at "ws"
    refine r_ixT (.inl (g02.tups _ _ rd)) (v := .ref q) (at_of (j := x0.toNat) (by omega) hvd) ?_
    walk_at "ws"
    refine ⟨q, _, rfl, .inr (.inl (g02.tups _ _ rq)), rfl, by rw [List.all_map, List.all_eq_true]; intro q _; rfl, ?_⟩
    rw [inV_ints]
    have eo : okP wts dts i = decide ((i : Int) ∈ d) := by
      unfold okP
      rw [egi]
      show decide ((i : Int) ∈ tgInts (itemsT (dts.getD x0.toNat .non))) = _
      rw [ed]
      show decide ((i : Int) ∈ tgInts (d.map Tg.int)) = _
      rw [ints_map]
    rw [← eo]
    walk_at "ws"
    refine w_ite (fun e => ?_) (fun e => ?_)
    · have e : okP wts dts i = false := by simpa using e
      refine w_mkO ?_
      walk_at "ws"
      exact bad_rec (v := .str "put") (u := .int (i : Nat)) g02 fun d H' g h => kbad _ _ (due_5 e1 e2 f3 f4 (fw_some hlt ho e)) d H' g h
    · have e : okP wts dts i = true := by simpa using e
      walk_at "ws"
      refine ⟨g02, fun j hj => ?_, _, _, _, _, rfl⟩
      rcases Nat.lt_succ_iff_lt_or_eq.mp hj with q | q
      · exact ho j q
      · rw [q]; exact e
  rintro σ H1 ⟨g1, ho, u2, u3, u4, u5, rfl⟩
  have f5 : fw (okP wts dts) wts.length = none := fw_none (by rw [← lw]; exact ho)
  exact kok (due_6 e1 e2 f3 f4 f5) H1 g1

end
end Mine
/-! ## K5 -/


namespace Mine
section
variable {P : Program} {w : World} {K : PySem.W.Frag} {mg : Str → Option Value} {base : Heap} {a : Ads}

/-! ### records as instances -/
theorem wd_ : ¬ (("writers" : Str) = "diaries") := by decide +kernel
def rf (w d : V) : List (Str × V) := [("writers", w), ("diaries", d)]
theorem rf_w (w d : V) : (rf w d).lookup ("writers" : Str) = some w := by simp [rf, List.lookup]
theorem rf_d (w d : V) : (rf w d).lookup ("diaries" : Str) = some d := by
  have e : (("diaries" : Str) == "writers") = false := by simpa using fun z => wd_ z.symm
  simp [rf, List.lookup, e]
theorem rput0 (w : V) : putF "writers" w [] = [(("writers" : Str), w)] := rfl
theorem rput1 (w d : V) : putF "diaries" d [(("writers" : Str), w)] = rf w d := by
  show (if ("writers" : Str) = "diaries" then _ else (("writers" : Str), w) :: putF "diaries" d []) = _
  rw [if_neg wd_]; rfl
theorem r_fld {o : Addr} {C dx : Addr} {fs : List (Str × V)} {v : V} {f : Str} {H : Hp} {F : V → Prop} (e : H o = some (.ins C dx fs)) (c : Cls K C) (n : NoAttr K C f) (l : fs.lookup f = some v) (q : F v) :
    ∃ a C dx fs v, V.ref o = .ref a ∧ H a = some (.ins C dx fs) ∧ Cls K C ∧ NoAttr K C f ∧ fs.lookup f = some v ∧ F v := ⟨o, C, dx, fs, v, rfl, e, c, n, l, q⟩
theorem r_sfld {o : Addr} {C dx : Addr} {fs : List (Str × V)} {F : Hp → Prop} {f : Str} {y : V} {H : Hp} (e : H o = some (.ins C dx fs)) (c : Cls K C) (n : NoAttr K C f) (l : fs.length < 1000) (q : F (upd H o (.ins C dx (putF f y fs)))) :
    ∃ a C dx fs, V.ref o = .ref a ∧ H a = some (.ins C dx fs) ∧ Cls K C ∧ NoAttr K C f ∧ fs.length < 1000 ∧ F (upd H a (.ins C dx (putF f y fs))) := ⟨o, C, dx, fs, rfl, e, c, n, l, q⟩
def sp_Record_init (C CB : Addr) : Sp := fun vs H Q E => ∃ (x dx hd : Addr) (wv dv : V) (tw td : Tg), vs = [.ref x, wv, dv] ∧ H x = some (.ins C dx []) ∧ Ab C hd H wv tw ∧ Ab C hd H dv td ∧ smT td = true ∧
  (due tw td = none → ∀ H', (∀ b u, b ≠ x → H b = some u → H' b = some u) → H' x = some (.ins C dx (rf wv dv)) → Q .non H') ∧
  (∀ p y, due tw td = some (p, y) → ∀ d H', G none H H' → H' d = some (.xd (xfs (.str p) (.int y))) → E (.ref CB) (some d) H')
theorem ok_Record_init (T : Txt K mg a) : FnOk P w K mg base (L2.CX P w) 7 a.f_Record_init a.d_Record_init P_Record_init (sp_Record_init a.c_Record a.c_BadRecord) := by
  refine T.F_Record_init.okX sc_Record_init (fun vs H Q E h => by obtain ⟨x, dx, hd, wv, dv, tw, td, rfl, _⟩ := h; rfl) (fun cdv A outer s H vs Q E hr h => ?_)
  obtain ⟨x, dx, hd, wv, dv, tw, td, rfl, hx, hw, hdd, sm, kok, kbad⟩ := h
  have G_check_record : FnOk P w K mg base (L2.CX P w) 6 a.f_check_record a.d_check_record P_check_record (sp_check_record a.c_Record a.c_BadRecord) := ok_check_record T
  refine ⟨_, (pss_cons (ps_expr (pe_call G_check_record (hr.mono (by omega)) rfl T.m_check_record T.F_check_record.kp T.b_check_record .nil (passes_call (takes_of rfl rfl rfl rfl) (fun _ _ _ _ h => h)) (pa_cons (pv 1) (pa_cons (pv 2) pa_nil))))
  (pss_cons (ps_fld (pv 0) (pv 1) rfl)
  (pss_one (ps_fld (pv 0) (pv 2) rfl)))), ?_⟩
  walk_at "ws"
  refine ⟨hd, wv, dv, tw, td, rfl, hw, hdd, sm, fun e H1 g1 => ?_, fun p y e d H' g h => kbad p y e d H' g h⟩
  walk_at "ws"
  have h1 := g1.all _ _ hx
  refine r_sfld h1 T.cl_Record T.na_Record_writers (by show 0 < 1000; decide) ?_
  walk_at "ws"
  refine r_sfld upd_same T.cl_Record T.na_Record_diaries (by rw [rput0]; show 1 < 1000; decide) ?_
  rw [rput0, rput1]
  refine kok e _ (fun b u n z => ?_) upd_same
  rw [upd_ne n, upd_ne n]; exact g1.all _ _ z
/-! ### compared -/
theorem tgDs_ints (d : List Int) : tgDs (d.map Tg.int) = d.map PyData.int := by
  induction d with
  | nil => rfl
  | cons i d ih => show tgD (.int i) :: tgDs (d.map Tg.int) = _; rw [ih]; rfl
theorem tgD_I (d : List Int) : tgD (tgI d) = dI d := by show PyData.tuple (tgDs (d.map Tg.int)) = _; rw [tgDs_ints]
abbrev dDD (ds : List (List Int)) : PyData := .tuple (ds.map dI)
theorem tgDs_dias (ds : List (List Int)) : tgDs (ds.map tgI) = ds.map dI := by
  induction ds with
  | nil => rfl
  | cons d ds ih => show tgD (tgI d) :: tgDs (ds.map tgI) = _; rw [ih, tgD_I]; rfl
theorem tgD_DD (ds : List (List Int)) : tgD (tgDD ds) = dDD ds := by show PyData.tuple (tgDs (ds.map tgI)) = _; rw [tgDs_dias]
theorem pl_Is {n : Nat} (d : List Int) : ∀ u ∈ d.map Tg.int, Pl n u := fun z hz => by
  obtain ⟨i, _, rfl⟩ := List.mem_map.mp hz
  exact .int i
theorem pl_I {n : Nat} (d : List Int) : Pl (n + 1) (tgI d) := .tup (pl_Is d)
theorem pl_DDs (ds : List (List Int)) : ∀ u ∈ ds.map tgI, Pl 1 u := fun z hz => by
  obtain ⟨d, _, rfl⟩ := List.mem_map.mp hz
  exact pl_I d
theorem pl_DD (ds : List (List Int)) : Pl 2 (tgDD ds) := .tup (pl_DDs ds)
theorem ab_dI {C hd : Addr} {H : Hp} {v : V} {d : List Int} (h : Ab C hd H v (tgI d)) : Dp K H v (dI d) := by
  have := Ab.dp (K := K) 1 (tgI d) v (pl_I d) h
  rw [tgD_I] at this
  exact this
theorem ab_dDD {C hd : Addr} {H : Hp} {v : V} {ds : List (List Int)} (h : Ab C hd H v (tgDD ds)) : Dp K H v (dDD ds) := by
  have := Ab.dp (K := K) 2 (tgDD ds) v (pl_DD ds) h
  rw [tgD_DD] at this
  exact this
theorem can_dDD (ds : List (List Int)) : (dDD ds).canLay0 = true := can_tup fun d h => by
  obtain ⟨n, _, rfl⟩ := List.mem_map.mp h
  exact can_dI n
theorem dep_dDD (ds : List (List Int)) : (dDD ds).depth ≤ 2 := dep_tup (n := 1) fun d h => by
  obtain ⟨n, _, rfl⟩ := List.mem_map.mp h
  exact dep_dI n
theorem sh_dDD (ds : List (List Int)) : SeqAt.shaped (dDD ds) = true := sh_of (can_dDD ds) (Nat.le_trans (dep_dDD ds) (by decide))
theorem eqv_dDD (us ws : List (List Int)) : PyData.eqv (dDD us) (dDD ws) = decide (us = ws) := by
  rw [PyData.eqv]; exact eqvAll_map eqv_dI us ws
def RecAt (K : PySem.W.Frag) (C : Addr) (H : Hp) (x : Addr) (ws : List Int) (ds : List (List Int)) : Prop := ∃ (dx : Addr) (wv dv : V), H x = some (.ins C dx (rf wv dv)) ∧ Dp K H wv (dI ws) ∧ Dp K H dv (dDD ds)
def sp_Record_eq (K : PySem.W.Frag) (C : Addr) : Sp := fun vs H Q E => (∃ (x y : Addr) (ws us : List Int) (ds es : List (List Int)), vs = [.ref x, .ref y] ∧ RecAt K C H x ws ds ∧ RecAt K C H y us es ∧ Q (.bl (decide (ws = us) && decide (ds = es))) H) ∨ spNe C vs H Q E
theorem ty_ins {H : Hp} {x C dx : Addr} {fs : List (Str × V)} (ic : C8.InsC K C) (h : H x = some (.ins C dx fs)) : TyX K H (.ref x) (.ref C) := .base (.ins h ic.cl ic.ha ic.hn ic.htk ic.hm)
theorem ki_own (T : Txt K mg a) {n : String} {l : List Value} (hf : fastBuiltinMro n = some l) (hl : l.contains (.ref a.c_Record) = false) : PySem.W.kitOne K (.type n) (.ref a.c_Record) = some false := kit_own (cls_some T.ic_Record.hm) T.wt hf hl
theorem ok_Record_eq (T : Txt K mg a) : FnOk P w K mg base CX0 1 a.f_Record_eq a.d_Record_eq P_Record_eq (sp_Record_eq K a.c_Record) := by
  refine T.F_Record_eq.ok sc_Record_eq (fun vs H Q E h => by rcases h with ⟨x, y, ws, us, ds, es, rfl, _⟩ | ⟨x, y, rfl, _⟩ <;> rfl) (fun cdv A outer s H vs Q E hr h => ?_)
  rcases h with ⟨x, y, ws, us, ds, es, rfl, ⟨dx, wa, da, hx, hxw, hxd⟩, ⟨dy, wb, db, hy, hyw, hyd⟩, k⟩ | ⟨x, y, rfl, _, hy, k⟩
  · refine ⟨_, (pss_one (ps_ret (pe_and (pe_callB call_isi (by rfl) T.n_isinstance (by decide +kernel) (pa_cons (pv 1) (pa_cons (pe_glob (v := .ref a.c_Record) rfl T.m_Record rfl) pa_nil))) (pe_and (pe_cmpR (op_eqD hr.units) (pe_fld (pv 0) rfl) (pe_fld (pv 1) rfl) (nomark _)) (pe_one (pe_cmpR (op_eqD hr.units) (pe_fld (pv 0) rfl) (pe_fld (pv 1) rfl) (nomark _))))))), ?_⟩
    walk_at "ws"
    refine ⟨_, _, _, _, true, rfl, .own _, ty_ins T.ic_Record hy, T.ic_Record.me, ?_⟩
    walk_at "ws"
    refine r_fld hx T.cl_Record T.na_Record_writers (rf_w _ _) ?_
    walk_at "ws"
    refine r_fld hy T.cl_Record T.na_Record_writers (rf_w _ _) ?_
    refine ⟨dI ws, dI us, hxw, hyw, sh_dI ws, sh_dI us, ?_⟩
    rw [eqv_dI]
    walk_at "ws"
    refine w_ite (fun e => ?_) (fun e => ?_)
    · walk_at "ws"
      refine r_fld hx T.cl_Record T.na_Record_diaries (rf_d _ _) ?_
      walk_at "ws"
      refine r_fld hy T.cl_Record T.na_Record_diaries (rf_d _ _) ?_
      refine ⟨dDD ds, dDD es, hxd, hyd, sh_dDD ds, sh_dDD es, ?_⟩
      rw [eqv_dDD]
      rw [e, Bool.true_and] at k
      exact k
    · rw [e] at k
      exact k
  · refine ⟨_, (pss_one (ps_ret (pe_and (pe_callB call_isi (by rfl) T.n_isinstance (by decide +kernel) (pa_cons (pv 1) (pa_cons (pe_glob (v := .ref a.c_Record) rfl T.m_Record rfl) pa_nil))) (pe_and (pe_cmpR (op_eqD hr.units) (pe_fld (pv 0) rfl) (pe_fld (pv 1) rfl) (nomark _)) (pe_one (pe_cmpR (op_eqD hr.units) (pe_fld (pv 0) rfl) (pe_fld (pv 1) rfl) (nomark _))))))), ?_⟩
    walk_at "ws"
    rcases hy with ⟨j, rfl⟩ | ⟨b, ys, rfl, r⟩
    · refine ⟨_, _, _, _, false, rfl, .own _, .base (.int j), ki_own T fb_int rfl, ?_⟩
      walk_at "ws"
      exact k _ G.refl
    · refine ⟨_, _, _, _, false, rfl, .own _, rd_ty r, ki_own T fb_tuple rfl, ?_⟩
      walk_at "ws"
      exact k _ G.refl

theorem ext_of {H H' : Hp} (e : Ext H H') : G none H H' := G.of_all e
def rRec (K : PySem.W.Frag) (C : Addr) : Addr → Addr → Hp → Prop := fun x y H => ∃ ws ds, RecAt K C H x ws ds ∧ RecAt K C H y ws ds
theorem ok_Record_eqA (T : Txt K mg a) : FnOk P w K mg base CX0 1 a.f_Record_eq a.d_Record_eq P_Record_eq (spEq (rRec K a.c_Record)) :=
  (ok_Record_eq T).imp fun vs H Q E ⟨x, y, e, ⟨ws, ds, h1, h2⟩, k⟩ => .inl ⟨x, y, ws, ws, ds, ds, e, h1, h2, by rw [decide_eq_true rfl, decide_eq_true rfl]; exact k _ Ext.rfl'⟩
theorem own_eq (T : Txt K mg a) {X : Cx} (e1 : X.prog = P) (e2 : X.w = w) (e3 : X.K = K) (e4 : X.mg = mg) (e5 : X.base = base) : OwnEq X 1 CX0 a.c_Record a.f_Record_eq a.d_Record_eq P_Record_eq (sp_Record_eq K a.c_Record) E0 := by
  subst e1 e2 e3 e4 e5
  exact ⟨ok_Record_eq T, T.eqf_Record, T.eqi_Record, T.b_Record_eq, pass0, fun vs H Q E' h => .inr h⟩
theorem make_rec {C CB hd : Addr} {H1 : Hp} {wv dv : V} {tw td : Tg} {F : Addr → Hp → Prop} {E : XK} (hw : Ab C hd H1 wv tw) (hdd : Ab C hd H1 dv td) (sm : smT td = true)
    (q : due tw td = none → ∀ x dx H2, H1 x = none → (∀ o, G o H1 H2) → H2 x = some (.ins C dx (rf wv dv)) → F x H2)
    (z : ∀ p y, due tw td = some (p, y) → ∀ d H', G none H1 H' → H' d = some (.xd (xfs (.str p) (.int y))) → E (.ref CB) (some d) H') :
    ∀ x dx, H1 x = none → H1 dx = none → dx ≠ x → sp_Record_init C CB (.ref x :: ([wv, dv] ++ [])) (upd (upd H1 dx (.own x)) x (.ins C dx [])) (fun v H2 => v = .non ∧ F x H2) E := by
  intro x dx hx hdx nex
  have k12 : ∀ a u, H1 a = some u → (upd (upd H1 dx (.own x)) x (.ins C dx [])) a = some u := fun a u e => by
    rw [upd_ne (ne_of_none e hx), upd_ne (ne_of_none e hdx)]; exact e
  have g12 : G none H1 (upd (upd H1 dx (.own x)) x (.ins C dx [])) := G.of_all k12
  refine ⟨x, dx, hd, wv, dv, tw, td, rfl, upd_same, hw.n g12, hdd.n g12, sm, fun e H2 k2 h2 => ⟨rfl, ?_⟩, fun p y ee d H' g h => z p y ee d H' (g12.trans g) h⟩
  exact q e x dx H2 hx (fun o => G.of_all fun a u e => k2 a u (ne_of_none e hx) (k12 a u e)) h2

end
end Mine
/-! ## K6 -/


namespace Mine
section
variable {P : Program} {w : World} {K : PySem.W.Frag} {mg : Str → Option Value} {base : Heap} {a : Ads}

/-! ### the hand of draws -/
def sp__law_hand (K : PySem.W.Frag) : Sp := fun vs H Q _ => ∃ (s : Addr) (ns : List Int), vs = [.ref s] ∧ SqL K H s (ns.map V.int) ∧ ns.length ≤ 63 ∧ ∀ hd c H', G none H H' → Hand H' hd c → Q (.ref hd) H'
theorem ok__law_hand (T : Txt K mg a) : FnOk P w K mg base CX0 1 a.f__law_hand a.d__law_hand P__law_hand (sp__law_hand K) := by
  refine T.F__law_hand.ok sc__law_hand (fun vs H Q E h => by obtain ⟨s, ns, rfl, _⟩ := h; rfl) (fun cdv A outer s0 H vs Q E hr h => ?_)
  obtain ⟨s, ns, rfl, hs, hl, k⟩ := h
  refine ⟨_, (pss_cons (ps_setLc (i := 1) (own := [("_law_cell", 2)]) (g := (gName 2)) (tt := tYes)  rfl sc__law_hand.nd rfl rfl (sw_true rfl rfl rfl (by decide +kernel)) (pi_list (pe_slice sl_list (pv 0) po_none (po_some pe_int))) (blkOk_by (N := N__law_hand) (sc := defScope s__law_hand) (by decide +kernel)) (fun _ _ _ _ _ => (pg_name (i := 2) sc__law_hand.nd rfl (by first | exact Or.inl rfl | exact Or.inr rfl))) (fun _ _ _ _ _ => pts_nil) (fun _ _ _ _ _ => (pe_callB call_abs (by rfl) T.n_abs (by decide +kernel) (pa_cons (pe_callTy call_int1 (by rfl) T.n_int (by decide +kernel) (pa_cons (pv 2) pa_nil)) pa_nil))))
  (pss_one (ps_ret (pe_lstN (pa_cons (pv 1) (pa_cons pe_int (pa_cons pe_int (pa_cons (pe_op op_add pe_int (pe_callB call_len_seq (by rfl) T.n_len (by decide +kernel) (pa_cons (pv 1) pa_nil))) (pa_cons pe_int pa_nil))))))))), ?_⟩
  walk_at "ws"
  refine ⟨s, _, rfl, hs, fun p hp => ?_⟩
  obtain ⟨ms, hms⟩ : ∃ ms : List Int, cutV (ns.map V.int) none (some 63) = ms.map V.int := ints_of fun v hv => by
    obtain ⟨n, _, e⟩ := List.mem_map.mp (mem_cutV hv)
    exact ⟨n, e.symm⟩
  have hz : ms.length ≤ 63 := by
    have e := cutV_length (ns.map V.int) none (some 63)
    rw [hms, List.length_map, List.length_map] at e
    omega
  rw [hms]
  have g1 : G none H (upd H p (.lst (ms.map V.int))) := G.alloc hp
  have h1 : upd H p (.lst (ms.map V.int)) p = some (.lst (ms.map V.int)) := upd_same
  generalize upd H p (.lst (ms.map V.int)) = H1 at g1 h1 ⊢
  walk_at "ws"
  refine i_list (SqL.of h1) ?_
  intro D hD
  refine lc_pure (K := K) (o := none) walk_list (by rw [List.length_map]; omega) hD (fun _ e => nomatch e) (fun i => ms[i]?.map fun n => .int (if n < 0 then -n else n)) (fun H' g => SqL.of (g.all _ _ h1)) ?_ ?_
  · rintro i x H2 H3 hi g ⟨rfl, hx1⟩ Qy Qn ky kn
    obtain ⟨n, hn, rfl⟩ : ∃ n, ms[i]? = some n ∧ V.int n = x := by
      rw [List.getElem?_map] at hx1; exact Option.map_eq_some_iff.mp hx1
    walk_at "ws"
    refine ⟨rfl, ?_⟩
    walk_at "ws"
    refine .inl ⟨_, rfl, ?_⟩
    walk_at "ws"
    exact ⟨_, rfl, ky _ _ _ G.refl (.int _) rfl (by rw [hn]; rfl)⟩
  · intro xs H' g hD' hds _
    rw [List.length_map, filterMap_range_map] at hds
    obtain ⟨cs, rfl⟩ : ∃ cs : List Int, xs = cs.map V.int := ⟨_, DpAll.of_ints (ns := ms.map fun n => if n < 0 then -n else n) (by rw [List.map_map]; exact hds)⟩
    have g2 := g1.trans g
    walk_at "ws"
    refine ⟨D, _, rfl, .inl (SqL.of hD'), ?_⟩
    walk_at "ws"
    refine ⟨sz (by simp), fun q H3 hq g3 h3 => ?_⟩
    exact k q D _ (g2.trans (g3 none)) ⟨ne_of_none hD' hq, ⟨cs, (g3 none).all _ _ hD'⟩, _, _, _, _, h3, Int.le_refl _⟩

def sp__law_draw : Sp := fun vs H Q _ => ∃ (hd c : Addr) (n : Int), vs = [.ref hd, .int n] ∧ Hand H hd c ∧ 0 < n ∧ n ≤ 100000 ∧ ∀ r H', 0 ≤ r → r < n → G (some (hd, c)) H H' → Hand H' hd c → Q (.int r) H'
theorem st5 {x0 x1 x2 x3 x4 v : V} {j : Nat} {hd : Addr} {z : Int} {H : Hp} {F : Hp → Prop} (h : H hd = some (.lst [x0, x1, x2, x3, x4])) (e : ixN 5 z = some j) (q : F (upd H hd (.lst (([x0, x1, x2, x3, x4] : List V).set j v)))) : rSetL (.ref hd) (.int z) v H F := ⟨hd, _, z, j, rfl, rfl, h, e, q⟩
theorem ok__law_draw (T : Txt K mg a) : FnOk P w K mg base CX0 1 a.f__law_draw a.d__law_draw P__law_draw sp__law_draw := by
  refine T.F__law_draw.ok sc__law_draw (fun vs H Q E h => by obtain ⟨hd, c, n, rfl, _⟩ := h; rfl) (fun cdv A outer s0 H vs Q E hr h => ?_)
  obtain ⟨hd, c, n, rfl, hh, n0, n1, k⟩ := h
  have hh' := hh
  obtain ⟨nc, ⟨ns, hc⟩, i, b, m, z, h, hi⟩ := hh'
  refine ⟨_, (pss_cons (ps_if (L2.PW.pt (pw_and (pt_cmpR op_eq (pe_ix ix_list (pv 0) pe_int (fun _ _ => rfl)) pe_int (nomark _)) (pw_and1 (pt_cmpR op_lt (pe_ix ix_list (pv 0) pe_int (fun _ _ => rfl)) (pe_callB call_len_seq (by rfl) T.n_len (by decide +kernel) (pa_cons (pe_ix ix_list (pv 0) pe_int (fun _ _ => rfl)) pa_nil)) (nomark _)))))
    (pss_cons (ps_set (i := 2) sc__law_draw.nd rfl (Or.inl rfl) (pe_ix ix_list (pe_ix ix_list (pv 0) pe_int (fun _ _ => rfl)) (pe_ix ix_list (pv 0) pe_int (fun _ _ => rfl)) (fun _ _ => rfl)))
  (pss_cons (ps_asg (pe_op op_add (pe_ix ix_list (pv 0) pe_int (fun _ _ => rfl)) pe_int) (pg_sub (pv 0) pe_int set_list))
  (pss_cons (ps_asg (pe_op op_mod (pe_callTy call_int1 (by rfl) T.n_int (by decide +kernel) (pa_cons (pe_op op_add (pe_op op_add (pe_op op_mul (pe_ix ix_list (pv 0) pe_int (fun _ _ => rfl)) pe_int) (pv 2)) pe_int) pa_nil)) pe_int) (pg_sub (pv 0) pe_int set_list))
  (pss_one (ps_if (pt_cmpR op_ge (pv 2) (pe_op op_pow pe_int pe_int) (nomark _))
    (pss_one (ps_asg (pv 2) (pg_sub (pv 0) pe_int set_list)))
    pss_nil)))))
    pss_nil)
  (pss_cons (ps_if (pt_cmpR op_gt (pe_ix ix_list (pv 0) pe_int (fun _ _ => rfl)) pe_int (nomark _))
    (pss_cons (ps_set (i := 3) sc__law_draw.nd rfl (Or.inl rfl) (pe_op op_mod (pe_callTy call_int1 (by rfl) T.n_int (by decide +kernel) (pa_cons (pe_ix ix_list (pv 0) pe_int (fun _ _ => rfl)) pa_nil)) (pv 1)))
  (pss_cons (ps_asg (pe_op op_fdiv (pe_ix ix_list (pv 0) pe_int (fun _ _ => rfl)) (pv 1)) (pg_sub (pv 0) pe_int set_list))
  (pss_one (ps_ret (pv 3)))))
    pss_nil)
  (pss_cons (ps_asg (pe_op op_add (pe_ix ix_list (pv 0) pe_int (fun _ _ => rfl)) pe_int) (pg_sub (pv 0) pe_int set_list))
  (pss_cons (ps_set (i := 4) sc__law_draw.nd rfl (Or.inl rfl) (pe_op op_mod (pe_callTy call_int1 (by rfl) T.n_int (by decide +kernel) (pa_cons (pe_op op_mul (pe_callTy call_int1 (by rfl) T.n_int (by decide +kernel) (pa_cons (pe_op op_add (pe_ix ix_list (pv 0) pe_int (fun _ _ => rfl)) (pe_op op_mul pe_int (pe_ix ix_list (pv 0) pe_int (fun _ _ => rfl)))) pa_nil)) pe_int) pa_nil)) pe_int))
  (pss_cons (ps_set (i := 4) sc__law_draw.nd rfl (Or.inl rfl) (pe_op op_mod (pe_callTy call_int1 (by rfl) T.n_int (by decide +kernel) (pa_cons (pe_op op_mul (pv 4) (pe_op op_add (pe_op op_fdiv (pv 4) pe_int) pe_int)) pa_nil)) pe_int))
  (pss_cons (ps_set (i := 4) sc__law_draw.nd rfl (Or.inl rfl) (pe_op op_mod (pe_callTy call_int1 (by rfl) T.n_int (by decide +kernel) (pa_cons (pe_op op_mul (pv 4) (pe_op op_add (pe_op op_fdiv (pv 4) pe_int) pe_int)) pa_nil)) pe_int))
  (pss_one (ps_ret (pe_op op_mod (pe_callTy call_int1 (by rfl) T.n_int (by decide +kernel) (pa_cons (pe_op op_fdiv (pv 4) pe_int) pa_nil)) (pv 1)))))))))), ?_⟩
  refine w_seqM (fun σ H1 => ∃ (i b m z : Int) (x : Option V), σ = [some (.ref hd), some (.int n), x, none, none] ∧ (∀ a, a ≠ hd → H1 a = H a) ∧ H1 hd = some (.lst [.ref c, .int i, .int b, .int m, .int z]) ∧ 0 ≤ i) (fun N kN => ?_) ?_
  · walk_at "ws"
    refine r_ixL (SqL.of h) (v := .int b) rfl ?_
    walk_at "ws"
    refine w_ite (fun e => ?_) (fun e => ?_)
    · walk_at "ws"
      refine r_ixL (SqL.of h) (v := .int i) rfl ?_
      walk_at "ws"
      refine r_ixL (SqL.of h) (v := .ref c) rfl ?_
      walk_at "ws"
      refine ⟨c, _, rfl, .inl (SqL.of hc), ?_⟩
      walk_at "ws"
      refine w_ite (fun e => ?_) (fun e => ?_)
      · have hlt : i < ns.length := by
          have := of_decide_eq_true e
          rw [List.length_map] at this
          exact this
        obtain ⟨cell, hcell⟩ : ∃ cell, ns[i.toNat]? = some cell := ⟨_, List.getElem?_eq_getElem (by omega)⟩
        walk_at "ws"
        refine r_ixL (SqL.of h) (v := .ref c) rfl ?_
        walk_at "ws"
        refine r_ixL (SqL.of h) (v := .int i) rfl ?_
        refine r_ixL (SqL.of hc) (v := .int cell) (at_of (j := i.toNat) (by omega) (by rw [List.getElem?_map, hcell]; rfl)) ?_
        walk_at "ws"
        refine r_ixL (SqL.of h) (v := .int i) rfl ?_
        walk_at "ws"
        refine st5 (j := 1) h rfl ?_
        walk_at "ws"
        refine r_ixL (SqL.of upd_same) (v := .int m) rfl ?_
        walk_at "ws"
        refine r_I (.inr ⟨by decide, by decide⟩) ?_
        walk_at "ws"
        refine .inl ⟨_, rfl, ?_⟩
        walk_at "ws"
        refine r_I (by decide) ?_
        walk_at "ws"
        refine st5 (j := 3) upd_same rfl ?_
        walk_at "ws"
        refine r_I ⟨by decide, by decide, by decide⟩ ?_
        walk_at "ws"
        refine w_ite (fun e => ?_) (fun e => ?_)
        · walk_at "ws"
          refine st5 (j := 2) upd_same rfl ?_
          refine kN _ _ ⟨_, _, _, _, _, rfl, fun a na => ?_, upd_same, by omega⟩
          rw [upd_ne na, upd_ne na, upd_ne na]
        · walk_at "ws"
          refine kN _ _ ⟨_, _, _, _, _, rfl, fun a na => ?_, upd_same, by omega⟩
          rw [upd_ne na, upd_ne na]
      · walk_at "ws"
        exact kN _ _ ⟨i, b, m, z, none, rfl, fun _ _ => rfl, h, hi⟩
    · walk_at "ws"
      exact kN _ _ ⟨i, b, m, z, none, rfl, fun _ _ => rfl, h, hi⟩
  · clear h hi
    rintro σ H1 ⟨i, b, m, z, x, rfl, hE, h, hi⟩
    walk_at "ws"
    refine r_ixL (SqL.of h) (v := .int b) rfl ?_
    walk_at "ws"
    refine w_ite (fun e => ?_) (fun e => ?_)
    · walk_at "ws"
      refine r_ixL (SqL.of h) (v := .int b) rfl ?_
      walk_at "ws"
      refine .inl ⟨_, rfl, ?_⟩
      walk_at "ws"
      refine r_I n0 ?_
      walk_at "ws"
      refine r_ixL (SqL.of h) (v := .int b) rfl ?_
      walk_at "ws"
      refine r_I ⟨n0, by omega⟩ ?_
      walk_at "ws"
      refine st5 (j := 2) h rfl ?_
      walk_at "ws"
      obtain ⟨g, hh2⟩ := G.at_hd hh (H' := upd H1 hd (.lst (([.ref c, .int i, .int b, .int m, .int z] : List V).set 2 (.int (b / n))))) (fun a na => by rw [upd_ne na]; exact hE a na) upd_same hi
      exact k _ _ (Int.emod_nonneg _ (by omega)) (Int.emod_lt_of_pos _ n0) g hh2
    · walk_at "ws"
      refine r_ixL (SqL.of h) (v := .int z) rfl ?_
      walk_at "ws"
      refine st5 (j := 4) h rfl ?_
      walk_at "ws"
      refine r_ixL (SqL.of upd_same) (v := .int m) rfl ?_
      walk_at "ws"
      refine r_ixL (SqL.of upd_same) (v := .int (z + 1)) rfl ?_
      refine r_I (.inl ⟨by decide, by decide⟩) ?_
      walk_at "ws"
      refine .inl ⟨_, rfl, ?_⟩
      walk_at "ws"
      refine r_I (.inr ⟨by decide, by decide⟩) ?_
      walk_at "ws"
      refine .inl ⟨_, rfl, ?_⟩
      walk_at "ws"
      refine r_I (by decide) ?_
      generalize e1 : (_ : Int) % 2147483647 = u1
      have b1 : 0 ≤ u1 ∧ u1 < 2147483647 := by omega
      walk_at "ws"
      refine r_I ⟨by decide, by decide⟩ ?_
      walk_at "ws"
      refine r_I (.inl ⟨by omega, by omega⟩) ?_
      walk_at "ws"
      refine .inl ⟨_, rfl, ?_⟩
      walk_at "ws"
      refine r_I (by decide) ?_
      generalize e2 : (_ : Int) % 2147483647 = u2
      have b2 : 0 ≤ u2 ∧ u2 < 2147483647 := by omega
      walk_at "ws"
      refine r_I ⟨by decide, by decide⟩ ?_
      walk_at "ws"
      refine r_I (.inl ⟨by omega, by omega⟩) ?_
      walk_at "ws"
      refine .inl ⟨_, rfl, ?_⟩
      walk_at "ws"
      refine r_I (by decide) ?_
      walk_at "ws"
      refine r_I ⟨by decide, by decide⟩ ?_
      walk_at "ws"
      refine .inl ⟨_, rfl, ?_⟩
      walk_at "ws"
      refine r_I n0 ?_
      obtain ⟨g, hh2⟩ := G.at_hd hh (H' := upd H1 hd (.lst (([.ref c, .int i, .int b, .int m, .int z] : List V).set 4 (.int (z + 1))))) (fun a na => by rw [upd_ne na]; exact hE a na) upd_same hi
      exact k _ _ (Int.emod_nonneg _ (by omega)) (Int.emod_lt_of_pos _ n0) g hh2

end
end Mine
/-! ## K7 -/


namespace Mine
section
variable {P : Program} {w : World} {K : PySem.W.Frag} {mg : Str → Option Value} {base : Heap} {a : Ads}

/-! ### _law_is of two that are alike -/
theorem dp_n {H H' : Hp} (g : G none H H') : (∀ (d : PyData) (v : V), Dp K H v d → Dp K H' v d) ∧ (∀ (ds : List PyData) (vs : List V), DpAll K H vs ds → DpAll K H' vs ds) := by
  have rd : ∀ {a u}, Rd H a u → Rd H' a u := fun h => h.elim (fun h => .inl (g.all _ _ h)) fun ⟨ob, h⟩ => .inr ⟨ob, g.all _ _ h⟩
  have sl : ∀ {a xs}, SqL K H a xs → SqL K H' a xs := fun h => h.elim (fun h => .inl (rd h)) .inr
  constructor
  · intro d v h
    refine Dp.rec (motive_1 := fun v d _ => Dp K H' v d) (motive_2 := fun vs ds _ => DpAll K H' vs ds) .non .bl .int .str ?_ ?_ ?_ ?_ h
    · intro a xs ds h1 _ h2; exact .lst (sl h1) h2
    · intro a xs ds h1 _ h2; exact .tup (sqT_t g.tups h1) h2
    · exact .nil
    · intro v vs d ds _ _ h1 h2; exact .cons h1 h2
  · intro ds vs h
    refine DpAll.rec (motive_1 := fun v d _ => Dp K H' v d) (motive_2 := fun vs ds _ => DpAll K H' vs ds) .non .bl .int .str ?_ ?_ ?_ ?_ h
    · intro a xs ds h1 _ h2; exact .lst (sl h1) h2
    · intro a xs ds h1 _ h2; exact .tup (sqT_t g.tups h1) h2
    · exact .nil
    · intro v vs d ds _ _ h1 h2; exact .cons h1 h2
theorem sqL_n {H H' : Hp} (g : G none H H') {p : Addr} {xs : List V} (h : SqL K H p xs) : SqL K H' p xs := by
  rcases h with (h | ⟨o, h⟩) | h
  · exact .inl (.inl (g.all _ _ h))
  · exact .inl (.inr ⟨o, g.all _ _ h⟩)
  · exact .inr h
theorem tyx_lst {H : Hp} {p : Addr} {xs : List V} (h : SqL K H p xs) : TyX K H (.ref p) (.type "list") := by
  rcases h with (h | ⟨o, h⟩) | ⟨o, its, n, h1, h2, _⟩
  · exact .base (.lst h)
  · exact .base (.frz h)
  · exact .kList h1 h2
def tyN : PyData → String
  | .none => "NoneType"
  | .bool _ => "bool"
  | .int _ => "int"
  | .str _ => "str"
  | .list _ => "list"
  | .tuple _ => "tuple"
  | .dict _ => "dict"
theorem ty_of {H : Hp} {v : V} {d : PyData} (h : Dp K H v d) : TyX K H v (.type (tyN d)) := by
  cases h with
  | non => exact .base .non
  | bl b => exact .base (.bl b)
  | int i => exact .base (.int i)
  | str x => exact .base (.str x)
  | lst h _ => exact tyx_lst h
  | tup h _ => exact tyx_tup h
def isTup : PyData → Bool | .tuple _ => true | _ => false
def isLst : PyData → Bool | .list _ => true | _ => false
def isBool : PyData → Bool | .bool _ => true | _ => false
theorem ki_tup (d : PyData) : PySem.W.kitOne K (.type (tyN d)) (.type "tuple") = some (isTup d) := by
  cases d with
  | none => exact kit_ty (a := "NoneType") (b := "tuple") (r := false) (by decide +kernel)
  | bool _ => exact kit_ty (a := "bool") (b := "tuple") (r := false) (by decide +kernel)
  | int _ => exact kit_ty (a := "int") (b := "tuple") (r := false) (by decide +kernel)
  | str _ => exact kit_ty (a := "str") (b := "tuple") (r := false) (by decide +kernel)
  | list _ => exact kit_ty (a := "list") (b := "tuple") (r := false) (by decide +kernel)
  | tuple _ => exact kit_ty (a := "tuple") (b := "tuple") (r := true) (by decide +kernel)
  | dict _ => exact kit_ty (a := "dict") (b := "tuple") (r := false) (by decide +kernel)
theorem ki_lst (d : PyData) : PySem.W.kitOne K (.type (tyN d)) (.type "list") = some (isLst d) := by
  cases d with
  | none => exact kit_ty (a := "NoneType") (b := "list") (r := false) (by decide +kernel)
  | bool _ => exact kit_ty (a := "bool") (b := "list") (r := false) (by decide +kernel)
  | int _ => exact kit_ty (a := "int") (b := "list") (r := false) (by decide +kernel)
  | str _ => exact kit_ty (a := "str") (b := "list") (r := false) (by decide +kernel)
  | list _ => exact kit_ty (a := "list") (b := "list") (r := true) (by decide +kernel)
  | tuple _ => exact kit_ty (a := "tuple") (b := "list") (r := false) (by decide +kernel)
  | dict _ => exact kit_ty (a := "dict") (b := "list") (r := false) (by decide +kernel)
theorem ki_bool (d : PyData) : PySem.W.kitOne K (.type (tyN d)) (.type "bool") = some (isBool d) := by
  cases d with
  | none => exact kit_ty (a := "NoneType") (b := "bool") (r := false) (by decide +kernel)
  | bool _ => exact kit_ty (a := "bool") (b := "bool") (r := true) (by decide +kernel)
  | int _ => exact kit_ty (a := "int") (b := "bool") (r := false) (by decide +kernel)
  | str _ => exact kit_ty (a := "str") (b := "bool") (r := false) (by decide +kernel)
  | list _ => exact kit_ty (a := "list") (b := "bool") (r := false) (by decide +kernel)
  | tuple _ => exact kit_ty (a := "tuple") (b := "bool") (r := false) (by decide +kernel)
  | dict _ => exact kit_ty (a := "dict") (b := "bool") (r := false) (by decide +kernel)
theorem ki_tl (d : PyData) : PySem.W.kitAny K (.type (tyN d)) [.type "tuple", .type "list"] = some (isTup d || isLst d) := by
  refine kitAny_cons (ki_tup d) (fun e => ?_) fun e => by rw [e]; rfl
  refine kitAny_cons (ki_lst d) (fun e2 => ?_) fun e2 => by rw [e, e2]; rfl
  rw [e, e2]; rfl
theorem r_isiT {H : Hp} {v : V} {d : PyData} {tp : Addr} {Q : VK} (h : H tp = some (.tup [.ty "tuple", .ty "list"])) (hd : Dp K H v d) (q : Q (.bl (isTup d || isLst d)) H) : rIsiT K [v, .ref tp] H Q :=
  ⟨v, tp, [.ty "tuple", .ty "list"], _, [.type "tuple", .type "list"], _, rfl, h, .cons (.ty "tuple") (.cons (.ty "list") .nil), ty_of hd, ki_tl d, q⟩
def scal1 : PyData → Prop
  | .none => True
  | .bool _ => True
  | .int _ => True
  | .str x => PyData.strOk x = true
  | _ => False
def okd : Nat → PyData → Prop
  | 0, d => scal1 d
  | n + 1, d => scal1 d ∨ ∃ ds, (d = .tuple ds ∨ d = .list ds) ∧ ds.length ≤ 100000 ∧ ∀ e ∈ ds, okd n e
theorem scal1_tl {d : PyData} (h : scal1 d) : (isTup d || isLst d) = false := by cases d <;> first | rfl | exact h.elim
theorem scal1_eqv {d : PyData} (h : scal1 d) : PyData.eqv d d = true := by
  cases d with
  | none => rfl
  | bool b => cases b <;> rfl
  | int i => simp [PyData.eqv]
  | str x => simp [PyData.eqv]
  | list _ => exact h.elim
  | tuple _ => exact h.elim
  | dict _ => exact h.elim
theorem scal1_sh {d : PyData} (h : scal1 d) : SeqAt.shaped d = true := by
  cases d <;> first | exact h.elim | (simp [SeqAt.shaped, PyData.canLay0, PyData.depth]; done) | (simp [SeqAt.shaped, PyData.canLay0, PyData.depth]; exact h)
theorem walk_zipT {p q : Addr} {xs ys : List V} {n : Nat} (hn : n = min xs.length ys.length) : Walk (RZ.ItzT K p q) n (fun H => SqT K H p xs ∧ SqT K H q ys) (YPair (fun i => xs[i]?) (fun i => ys[i]?)) := by
  subst hn
  refine ⟨fun i _ hi h => ?_, fun _ h => ⟨xs, ys, h.1, h.2, by omega⟩, fun i H v H' _ h y => ?_⟩
  · have h1 : i < xs.length := by omega
    have h2 : i < ys.length := by omega
    exact ⟨xs, ys, xs[i], ys[i], h.1, h.2, by simp [h1], by simp [h2]⟩
  · obtain ⟨T, x, z, h1, h2, h3, h4, h5⟩ := y
    exact ⟨T, x, z, h1, h2, h3, h4 xs h.1, h5 ys h.2⟩
theorem bools_true {H : Hp} {xs : List V} {n : Nat} (h : DpAll K H xs ((List.range n).filterMap fun _ => some (PyData.bool true))) : ∃ bs : List Bool, xs = bs.map V.bl ∧ bs.all id = true := by
  generalize List.range n = l at h
  induction l generalizing xs with
  | nil => cases h; exact ⟨[], rfl, rfl⟩
  | cons z l ih =>
    cases h with
    | cons h t =>
      obtain ⟨bs, rfl, e⟩ := ih t
      cases h
      exact ⟨true :: bs, rfl, by simpa using e⟩
def sp__law_is (K : PySem.W.Frag) (n : Nat) : Sp := fun vs H Q _ => ∃ (v u : V) (d : PyData), vs = [v, u] ∧ okd n d ∧ Dp K H v d ∧ Dp K H u d ∧ ∀ H', G none H H' → Q (.bl true) H'
theorem ok__law_is (T : Txt K mg a) : ∀ n : Nat, FnOk P w K mg base CX0 (n + 1) a.f__law_is a.d__law_is P__law_is (sp__law_is K n)
  | 0 => by
    refine T.F__law_is.ok sc__law_is (fun vs H Q E h => by obtain ⟨v, u, d, rfl, _⟩ := h; rfl) (fun cdv A outer s H vs Q E hr h => ?_)
    obtain ⟨v, u, d, rfl, od, hv, hu, k⟩ := h
    have od : scal1 d := od
    refine ⟨_, (pss_cons (ps_if (pt_val (pe_callB call_isiT (by rfl) T.n_isinstance (by decide +kernel) (pa_cons (pv 1) (pa_cons (pe_tupN (pa_cons (pe_bltn (v := .ty "tuple") (u := .type "tuple") rfl T.n_tuple (by decide +kernel) rfl) (pa_cons (pe_bltn (v := .ty "list") (u := .type "list") rfl T.n_list (by decide +kernel) rfl) pa_nil))) pa_nil)))) pss_never pss_nil) (pss_one (ps_ret (pe_and (pe_cmpR op_eq (pe_callB call_isi (by rfl) T.n_isinstance (by decide +kernel) (pa_cons (pv 0) (pa_cons (pe_bltn (v := .ty "bool") (u := .type "bool") rfl T.n_bool (by decide +kernel) rfl) pa_nil))) (pe_callB call_isi (by rfl) T.n_isinstance (by decide +kernel) (pa_cons (pv 1) (pa_cons (pe_bltn (v := .ty "bool") (u := .type "bool") rfl T.n_bool (by decide +kernel) rfl) pa_nil))) (nomark _)) (pe_one (pe_cmpR (op_eqD hr.units) (pv 0) (pv 1) (nomark _))))))), ?_⟩
    walk_at "ws"
    refine ⟨sz (by simp), fun p H1 hp g1 h1 => ?_⟩
    have g1 := g1 none
    walk_at "ws"
    refine r_isiT h1 ((dp_n g1).1 _ _ hu) ?_
    rw [scal1_tl od]
    walk_at "ws"
    refine r_isi (ty_of ((dp_n g1).1 _ _ hv)) (ki_bool d) ?_
    walk_at "ws"
    refine r_isi (ty_of ((dp_n g1).1 _ _ hu)) (ki_bool d) ?_
    walk_at "ws"
    refine w_iteE (by simp) ?_
    walk_at "ws"
    refine ⟨d, d, (dp_n g1).1 _ _ hv, (dp_n g1).1 _ _ hu, scal1_sh od, scal1_sh od, ?_⟩
    rw [scal1_eqv od]
    exact k _ g1
  | n + 1 => by
    have ih : FnOk P w K mg base CX0 (n + 1) a.f__law_is a.d__law_is P__law_is (sp__law_is K n) := ok__law_is T n
    refine T.F__law_is.ok sc__law_is (fun vs H Q E h => by obtain ⟨v, u, d, rfl, _⟩ := h; rfl) (fun cdv A outer s H vs Q E hr h => ?_)
    obtain ⟨v, u, d, rfl, od, hv, hu, k⟩ := h
    refine ⟨_, (pss_cons (ps_if (pt_val (pe_callB call_isiT (by rfl) T.n_isinstance (by decide +kernel) (pa_cons (pv 1) (pa_cons (pe_tupN (pa_cons (pe_bltn (v := .ty "tuple") (u := .type "tuple") rfl T.n_tuple (by decide +kernel) rfl) (pa_cons (pe_bltn (v := .ty "list") (u := .type "list") rfl T.n_list (by decide +kernel) rfl) pa_nil))) pa_nil))))
    (pss_cons (ps_if (L2.PW.pt (pw_or (pt_cmpR op_ne (pe_callB call_isi (by rfl) T.n_isinstance (by decide +kernel) (pa_cons (pv 0) (pa_cons (pe_bltn (v := .ty "tuple") (u := .type "tuple") rfl T.n_tuple (by decide +kernel) rfl) pa_nil))) (pe_callB call_isi (by rfl) T.n_isinstance (by decide +kernel) (pa_cons (pv 1) (pa_cons (pe_bltn (v := .ty "tuple") (u := .type "tuple") rfl T.n_tuple (by decide +kernel) rfl) pa_nil))) (nomark _)) (pw_or1 (pt_not (pt_val (pe_callB call_isiT (by rfl) T.n_isinstance (by decide +kernel) (pa_cons (pv 0) (pa_cons (pe_tupN (pa_cons (pe_bltn (v := .ty "tuple") (u := .type "tuple") rfl T.n_tuple (by decide +kernel) rfl) (pa_cons (pe_bltn (v := .ty "list") (u := .type "list") rfl T.n_list (by decide +kernel) rfl) pa_nil))) pa_nil))))))))
    (pss_one (ps_ret pe_bl))
    pss_nil)
  (pss_one (ps_ret (pe_and (pe_cmpR op_eq (pe_callB call_len_seq (by rfl) T.n_len (by decide +kernel) (pa_cons (pv 0) pa_nil)) (pe_callB call_len_seq (by rfl) T.n_len (by decide +kernel) (pa_cons (pv 1) pa_nil)) (nomark _)) (pe_one (pe_callB (cr_all rfl) (by rfl) T.n_all (by decide +kernel) (pa_cons (pe_lc (own := [("_law_one", 2), ("_law_two", 3)]) (g := (gTup K 2 (gCons (gName 2) (gCons (gName 3) gNil)))) (tt := tYes) rfl sc__law_is.nd (RZ.pi_zipA (by rfl) T.n_zip (pa_cons (pv 0) (pa_cons (pv 1) pa_nil))) (blkOk_by (N := N__law_is) (sc := defScope s__law_is) (by decide +kernel)) (fun _ _ _ _ _ => (pg_tup rfl (pgs_cons (pg_name (i := 2) sc__law_is.nd rfl (by first | exact Or.inl rfl | exact Or.inr rfl)) (pgs_cons (pg_name (i := 3) sc__law_is.nd rfl (by first | exact Or.inl rfl | exact Or.inr rfl)) pgs_nil)))) (fun _ _ _ _ _ => pts_nil) (fun _ _ _ _ _ => (pe_call ih (hr.mono (by omega)) rfl T.m__law_is T.F__law_is.kp T.b__law_is .nil pass0 (pa_cons (pv 2) (pa_cons (pv 3) pa_nil))))) pa_nil)))))))
    pss_nil)
  (pss_one (ps_ret (pe_and (pe_cmpR op_eq (pe_callB call_isi (by rfl) T.n_isinstance (by decide +kernel) (pa_cons (pv 0) (pa_cons (pe_bltn (v := .ty "bool") (u := .type "bool") rfl T.n_bool (by decide +kernel) rfl) pa_nil))) (pe_callB call_isi (by rfl) T.n_isinstance (by decide +kernel) (pa_cons (pv 1) (pa_cons (pe_bltn (v := .ty "bool") (u := .type "bool") rfl T.n_bool (by decide +kernel) rfl) pa_nil))) (nomark _)) (pe_one (pe_cmpR (op_eqD hr.units) (pv 0) (pv 1) (nomark _))))))), ?_⟩
    walk_at "ws"
    refine ⟨sz (by simp), fun p H1 hp g1 h1 => ?_⟩
    have g1 := g1 none
    walk_at "ws"
    refine r_isiT h1 ((dp_n g1).1 _ _ hu) ?_
    rcases od with od | ⟨ds, od, hz, hds⟩
    · rw [scal1_tl od]
      walk_at "ws"
      refine r_isi (ty_of ((dp_n g1).1 _ _ hv)) (ki_bool d) ?_
      walk_at "ws"
      refine r_isi (ty_of ((dp_n g1).1 _ _ hu)) (ki_bool d) ?_
      walk_at "ws"
      refine w_iteE (by simp) ?_
      walk_at "ws"
      refine ⟨d, d, (dp_n g1).1 _ _ hv, (dp_n g1).1 _ _ hu, scal1_sh od, scal1_sh od, ?_⟩
      rw [scal1_eqv od]
      exact k _ g1
    · have e1 : (isTup d || isLst d) = true := by rcases od with rfl | rfl <;> rfl
      rw [e1]
      have hv1 := (dp_n g1).1 _ _ hv
      have hu1 := (dp_n g1).1 _ _ hu
      walk_at "ws"
      refine r_isi (ty_of hv1) (ki_tup d) ?_
      walk_at "ws"
      refine r_isi (ty_of hu1) (ki_tup d) ?_
      walk_at "ws"
      refine w_iteN (by simp) ?_
      walk_at "ws"
      refine ⟨sz (by simp), fun p2 H2 hp2 g2 h2 => ?_⟩
      have g2 := g2 none
      have hv2 := (dp_n g2).1 _ _ hv1
      have hu2 := (dp_n g2).1 _ _ hu1
      have g12 := g1.trans g2
      walk_at "ws"
      refine r_isiT h2 hv2 ?_
      rw [e1]
      walk_at "ws"
      -- the turn of one pair
      have turn : ∀ (i : Nat) (xs ys : List V) (H3 H4 : Hp) (x : V) (Qy : V → Hp → Prop) (Qn : Hp → Prop), DpAll K H2 xs ds → DpAll K H2 ys ds → G none H2 H3 → YPair (fun i => xs[i]?) (fun i => ys[i]?) i H3 x H4 →
          (∀ y H5 e, G none H3 H5 → Dp K H5 y e → nl e = true → some (PyData.bool true) = some e → Qy y H5) →
          ∃ (t : Addr) (y z : V) (e : PyData), x = .ref t ∧ H4 t = some (.tup [y, z]) ∧ e ∈ ds ∧ Dp K H4 y e ∧ Dp K H4 z e ∧ G none H3 H4 := by
        intro i xs ys H3 H4 x Qy Qn hx hy g3 hY ky
        obtain ⟨t, y, z, rfl, ht, rfl, ey, ez⟩ := hY
        obtain ⟨e, he, hye⟩ := DpAll.get hx ey
        obtain ⟨e', he', hze⟩ := DpAll.get hy ez
        rw [he] at he'; cases he'
        have g4 : G none H3 (upd H3 t (.tup [y, z])) := G.alloc ht
        exact ⟨t, y, z, e, rfl, upd_same, List.mem_of_getElem? he, (dp_n (g3.trans g4)).1 _ _ hye, (dp_n (g3.trans g4)).1 _ _ hze, g4⟩
      rcases od with rfl | rfl
      · obtain ⟨p3, xs, rfl, hxs, hxd⟩ := dp_tup hv2
        obtain ⟨p4, ys, rfl, hys, hyd⟩ := dp_tup hu2
        walk_at "ws"
        refine ⟨p3, xs, rfl, .inr hxs, ?_⟩
        walk_at "ws"
        refine ⟨p4, ys, rfl, .inr hys, ?_⟩
        walk_at "ws"
        have lx := DpAll.length hxd
        have ly := DpAll.length hyd
        refine w_iteE (by simp [lx, ly]) ?_
        walk_at "ws"
        refine ⟨p3, p4, xs, ys, rfl, .inr ⟨hxs, hys, ?_⟩⟩
        intro D hD
        refine lc_pure (K := K) (o := none) (walk_zipT (xs := xs) (ys := ys) rfl) (by omega) hD (fun _ e => nomatch e) (fun _ => some (PyData.bool true)) (fun H' g => ⟨sqT_t g.tups hxs, sqT_t g.tups hys⟩) ?_ ?_
        · intro i x H3 H4 hi g3 hY Qy Qn ky kn
          obtain ⟨t, y, z, e, rfl, h4, me, hy4, hz4, g4⟩ := turn i xs ys H3 H4 x Qy Qn hxd hyd g3 hY ky
          refine ⟨t, _, rfl, SqT.of h4, rfl, ?_⟩
          refine ⟨_, _, rfl, ?_⟩
          walk_at "ws"
          refine ⟨_, _, rfl, ?_⟩
          walk_at "ws"
          refine ⟨rfl, rfl, ?_⟩
          walk_at "ws"
          exact ⟨y, z, e, rfl, hds e me, hy4, hz4, fun H5 g5 => ky _ _ _ (g4.trans g5) (.bl true) rfl rfl⟩
        · intro xs' H' g hD' hds' _
          obtain ⟨bs, rfl, eb⟩ := bools_true hds'
          walk_at "ws"
          refine ⟨D, bs, rfl, SqL.of hD', ?_⟩
          rw [eb]
          exact k _ (g12.trans g)
      · cases hv2 with
        | lst hxs hxd =>
          cases hu2 with
          | lst hys hyd =>
            rename_i p3 xs p4 ys
            walk_at "ws"
            refine ⟨p3, xs, rfl, .inl hxs, ?_⟩
            walk_at "ws"
            refine ⟨p4, ys, rfl, .inl hys, ?_⟩
            walk_at "ws"
            have lx := DpAll.length hxd
            have ly := DpAll.length hyd
            refine w_iteE (by simp [lx, ly]) ?_
            walk_at "ws"
            refine ⟨p3, p4, xs, ys, rfl, .inl ⟨hxs, hys, ?_⟩⟩
            intro D hD
            refine lc_pure (K := K) (o := none) (walk_zip (xs := xs) (ys := ys) rfl) (by omega) hD (fun _ e => nomatch e) (fun _ => some (PyData.bool true)) (fun H' g => ⟨sqL_n g hxs, sqL_n g hys⟩) ?_ ?_
            · intro i x H3 H4 hi g3 hY Qy Qn ky kn
              obtain ⟨t, y, z, e, rfl, h4, me, hy4, hz4, g4⟩ := turn i xs ys H3 H4 x Qy Qn hxd hyd g3 hY ky
              refine ⟨t, _, rfl, SqT.of h4, rfl, ?_⟩
              refine ⟨_, _, rfl, ?_⟩
              walk_at "ws"
              refine ⟨_, _, rfl, ?_⟩
              walk_at "ws"
              refine ⟨rfl, rfl, ?_⟩
              walk_at "ws"
              exact ⟨y, z, e, rfl, hds e me, hy4, hz4, fun H5 g5 => ky _ _ _ (g4.trans g5) (.bl true) rfl rfl⟩
            · intro xs' H' g hD' hds' _
              obtain ⟨bs, rfl, eb⟩ := bools_true hds'
              walk_at "ws"
              refine ⟨D, bs, rfl, SqL.of hD', ?_⟩
              rw [eb]
              exact k _ (g12.trans g)

end
end Mine
/-! ## K8 -/


namespace Mine
section
variable {P : Program} {w : World} {K : PySem.W.Frag} {mg : Str → Option Value} {base : Heap} {a : Ads}

/-! ### _law_web -/
def ltP (u v : Int × Int) : Prop := u.1 < v.1 ∨ (u.1 = v.1 ∧ u.2 < v.2)
structure IsWeb (m : Int) (ws : List (Int × Int)) : Prop where
  lo : 1 ≤ m
  hi : m ≤ 7
  mem : ∀ u ∈ ws, (0 ≤ u.1 ∧ u.1 < m) ∧ (0 ≤ u.2 ∧ u.2 < m) ∧ u.1 ≠ u.2
  asc : ws.Pairwise ltP
/-- pairs whose tuples are known -/
def TupAll (H : Hp) (bs : List Addr) (ws : List (Int × Int)) : Prop := bs.length = ws.length ∧ ∀ (i : Nat) (b : Addr) (u : Int × Int), bs[i]? = some b → ws[i]? = some u → H b = some (.tup [.int u.1, .int u.2])
theorem TupAll.g {H H' : Hp} {bs : List Addr} {ws : List (Int × Int)} {o : Option (Addr × Addr)} (h : TupAll H bs ws) (g : G o H H') (hh : ∀ q, o = some q → Hand H q.1 q.2) : TupAll H' bs ws := ⟨h.1, fun i b u e1 e2 => by
  have q1 := h.2 i b u e1 e2
  refine g.keep b _ (fun q e => ?_) q1
  obtain ⟨_, _, _, _, _, _, z, _⟩ := hh q e
  exact ne_of q1 z (by intro z; cases z)⟩
theorem TupAll.put {H : Hp} {bs : List Addr} {ws : List (Int × Int)} {l : Addr} {xs : List V} {u : HO} (h : TupAll H bs ws) (hl : H l = some (.lst xs)) : TupAll (upd H l u) bs ws := ⟨h.1, fun i b w e1 e2 => by
  have q1 := h.2 i b w e1 e2
  rw [upd_ne (ne_of q1 hl (by intro z; cases z))]
  exact q1⟩
theorem TupAll.app {H : Hp} {bs : List Addr} {ws : List (Int × Int)} {t : Addr} {u : Int × Int} (h : TupAll H bs ws) (ht : H t = some (.tup [.int u.1, .int u.2])) : TupAll H (bs ++ [t]) (ws ++ [u]) := ⟨by simp [h.1], fun i b w e1 e2 => by
  by_cases c : i < bs.length
  · rw [List.getElem?_append_left c] at e1
    rw [List.getElem?_append_left (by rw [← h.1]; exact c)] at e2
    exact h.2 i b w e1 e2
  · rw [List.getElem?_append_right (by omega)] at e1
    rw [List.getElem?_append_right (by rw [← h.1]; omega), ← h.1] at e2
    cases q : i - bs.length with
    | zero =>
      rw [q] at e1 e2
      simp at e1 e2
      subst e1 e2
      exact ht
    | succ j =>
      rw [q] at e1
      simp at e1⟩
theorem new_back {H0 H1 : Hp} {hd c l : Addr} (g : G (some (hd, c)) H0 H1) (x : Hand H1 hd c) (h : H1 l = none) : H0 l = none := by
  cases e : H0 l with
  | none => rfl
  | some u =>
    have n : l ≠ hd := x.ne h
    rw [g.keep l u (fun p e => by cases e; exact n) e] at h
    cases h
theorem at4 {b0 b1 b2 b3 : Bool} {z : Int} (h0 : 0 ≤ z) (h1 : z ≤ 3) : ∃ b, atI [V.bl b0, V.bl b1, V.bl b2, V.bl b3] z = some (.bl b) := by
  have : z = 0 ∨ z = 1 ∨ z = 2 ∨ z = 3 := by omega
  rcases this with rfl | rfl | rfl | rfl
  · exact ⟨b0, rfl⟩
  · exact ⟨b1, rfl⟩
  · exact ⟨b2, rfl⟩
  · exact ⟨b3, rfl⟩
/-- some wires, all ahead of (y, x) -/
structure Part (m : Int) (ws : List (Int × Int)) (y x : Int) : Prop where
  mem : ∀ u ∈ ws, (0 ≤ u.1 ∧ u.1 < m) ∧ (0 ≤ u.2 ∧ u.2 < m) ∧ u.1 ≠ u.2
  asc : ws.Pairwise ltP
  lt : ∀ u ∈ ws, ltP u (y, x)
theorem Part.up {m y x y' x' : Int} {ws : List (Int × Int)} (h : Part m ws y x) (e : y < y' ∨ (y = y' ∧ x ≤ x')) : Part m ws y' x' := ⟨h.mem, h.asc, fun u hu => by
  have q := h.lt u hu
  simp only [ltP] at q ⊢
  omega⟩
theorem Part.app {m y x : Int} {ws : List (Int × Int)} (h : Part m ws y x) (h1 : 0 ≤ y ∧ y < m) (h2 : 0 ≤ x ∧ x < m) (h3 : y ≠ x) : Part m (ws ++ [(y, x)]) y (x + 1) := by
  refine ⟨fun u hu => ?_, ?_, fun u hu => ?_⟩
  · rcases List.mem_append.mp hu with z | z
    · exact h.mem u z
    · have : u = (y, x) := by simpa using z
      subst this; exact ⟨h1, h2, h3⟩
  · rw [List.pairwise_append]
    refine ⟨h.asc, List.pairwise_singleton _ _, fun u hu v hv => ?_⟩
    have : v = (y, x) := by simpa using hv
    subst this; exact h.lt u hu
  · rcases List.mem_append.mp hu with z | z
    · have q := h.lt u z
      simp only [ltP] at q ⊢
      omega
    · have e : u = (y, x) := by simpa using z
      rw [e]
      exact .inr ⟨rfl, by show x < x + 1; omega⟩
def sp__law_web (K : PySem.W.Frag) : Sp := fun vs H Q _ => ∃ (hd c : Addr) (m : Int), vs = [.ref hd, .int m] ∧ Hand H hd c ∧ 1 ≤ m ∧ m ≤ 7 ∧ ∀ p bs ws H', G (some (hd, c)) H H' → Hand H' hd c → SqT K H' p (bs.map V.ref) → TupAll H' bs ws → IsWeb m ws → Q (.ref p) H'
/-- the loops' word -/
def WebW (K : PySem.W.Frag) (H : Hp) (hd c l : Addr) (m y x : Int) (H' : Hp) : Prop := ∃ (bs : List Addr) (ws : List (Int × Int)), G (some (hd, c)) H H' ∧ Hand H' hd c ∧ H' l = some (.lst (bs.map V.ref)) ∧ TupAll H' bs ws ∧ Part m ws y x ∧ bs.length ≤ 10000
theorem part_len {m y x : Int} {ws : List (Int × Int)} (h : Part m ws y x) (hm : m ≤ 7) : ws.length ≤ 10000 := by
  have hn : (ws.map fun u => (u.1 * 7 + u.2).toNat).Nodup := by
    have : (ws.map fun u => (u.1 * 7 + u.2).toNat).Pairwise (· < ·) := by
      rw [List.pairwise_map]
      refine List.Pairwise.imp_of_mem (fun {u v} hu hv huv => ?_) h.asc
      have h1 := h.mem u hu
      have h2 := h.mem v hv
      unfold ltP at huv
      omega
    exact this.imp fun h => Nat.ne_of_lt h
  have hs : ∀ k ∈ (ws.map fun u => (u.1 * 7 + u.2).toNat), k ∈ List.range 10000 := by
    intro k hk
    obtain ⟨u, hu, rfl⟩ := List.mem_map.mp hk
    have h1 := h.mem u hu
    rw [List.mem_range]
    omega
  have := List.Nodup.length_le_of_subset hn hs
  simpa using this
theorem ok__law_web (T : Txt K mg a) : FnOk P w K mg base CX0 2 a.f__law_web a.d__law_web P__law_web (sp__law_web K) := by
  refine T.F__law_web.ok sc__law_web (fun vs H Q E h => by obtain ⟨hd, c, m, rfl, _⟩ := h; rfl) (fun cdv A outer s H vs Q E hr h => ?_)
  obtain ⟨hd, c, m, rfl, hh, m1, m7, k⟩ := h
  have G__law_draw : FnOk P w K mg base CX0 1 a.f__law_draw a.d__law_draw P__law_draw sp__law_draw := ok__law_draw T
  refine ⟨_, (pss_cons (ps_set (i := 2) sc__law_web.nd rfl (Or.inl rfl) (pe_call (G__law_draw) (hr.mono (by omega)) rfl T.m__law_draw T.F__law_draw.kp T.b__law_draw .nil pass0 (pa_cons (pv 0) (pa_cons pe_int pa_nil))))
  (pss_cons (ps_set (i := 3) sc__law_web.nd rfl (Or.inl rfl) (pe_lstN pa_nil))
  (pss_cons (ps_for PassesOwn.never rfl (pi_range1 rfl T.n_range (pa_cons (pv 1) pa_nil)) (pg_name (i := 4) sc__law_web.nd rfl (Or.inl rfl))
    (pss_one (ps_for PassesOwn.never rfl (pi_range1 rfl T.n_range (pa_cons (pv 1) pa_nil)) (pg_name (i := 5) sc__law_web.nd rfl (Or.inl rfl))
    (pss_cons (ps_set (i := 6) sc__law_web.nd rfl (Or.inl rfl) (pe_ix ix_list (pe_lstN (pa_cons pe_bl (pa_cons (pe_cmpR op_in_seq (pe_callB call_abs (by rfl) T.n_abs (by decide +kernel) (pa_cons (pe_op op_sub (pv 4) (pv 5)) pa_nil)) (pe_lstN (pa_cons pe_int (pa_cons (pe_op op_sub (pv 1) pe_int) pa_nil))) (by rfl)) (pa_cons (pe_cmpR op_eq (pe_callB call_abs (by rfl) T.n_abs (by decide +kernel) (pa_cons (pe_op op_sub (pv 4) (pv 5)) pa_nil)) pe_int (nomark _)) (pa_cons (pe_or (pe_cmpR op_eq (pv 4) pe_int (nomark _)) (pe_one (pe_cmpR op_eq (pv 5) pe_int (nomark _)))) pa_nil))))) (pe_callB (call_min2 rfl) (by rfl) T.n_min (by decide +kernel) (pa_cons (pv 2) (pa_cons pe_int pa_nil))) (fun _ _ => rfl)))
  (pss_cons (ps_if (pt_cmpR op_gt (pv 2) pe_int (nomark _))
    (pss_one (ps_set (i := 6) sc__law_web.nd rfl (Or.inl rfl) (pe_cmpR op_lt (pe_call (G__law_draw) (hr.mono (by omega)) rfl T.m__law_draw T.F__law_draw.kp T.b__law_draw .nil pass0 (pa_cons (pv 0) (pa_cons pe_int pa_nil))) (pe_op op_sub (pv 2) pe_int) (nomark _))))
    pss_nil)
  (pss_one (ps_if (L2.PW.pt (pw_and (pt_cmpR op_ne (pv 4) (pv 5) (nomark _)) (pw_and1 (pt_val (pv 6)))))
    (pss_one (ps_expr (pe_bm PySem.F.plainAttrs_list PySem.F.slot_list_append PySem.F.type_list_append mt_append (pv 3) (pa_cons (pe_tupN (pa_cons (pv 4) (pa_cons (pv 5) pa_nil))) pa_nil))))
    pss_nil)))))))
  (pss_one (ps_ret (pe_callTy call_tupleN (by rfl) T.n_tuple (by decide +kernel) (pa_cons (pv 3) pa_nil))))))), ?_⟩
  walk_at "ws"
  refine ⟨hd, c, 6, rfl, hh, by decide, by decide, fun kind H1 k0 k1 g1 hh1 => ?_⟩
  walk_at "ws"
  refine ⟨sz (by simp), fun l H2 hl g2 h2 => ?_⟩
  have l0 : H l = none := new_back g1 hh1 hl
  have nl : l ≠ hd := hh1.ne hl
  have g2 := g1.trans (g2 _)
  have hh2 := g2.hand _ rfl hh
  have offl : ∀ p, some (hd, c) = some p → l ≠ p.1 := fun p e => by cases e; exact nl
  walk_at "ws"
  refine i_rng1 (by omega) (by omega) ?_
  refine for_it walk_range (fun i σ H' => WebW K H hd c l m i 0 H' ∧ ∃ u v x, σ = [some (.ref hd), some (.int m), some (.int kind), some (.ref l), u, v, x]) ⟨⟨[], [], g2, hh2, h2, ⟨rfl, fun i b u e => by simp at e⟩, ⟨(fun _ h => nomatch h), .nil, (fun _ h => nomatch h)⟩, Nat.zero_le _⟩, _, _, _, rfl⟩ (fun _ _ _ _ _ => trivial) ?_ ?_
  · rintro y _ σ _ H3 hy ⟨hW, u, v, x, rfl⟩ ⟨rfl, rfl⟩
    walk_at "ws"
    refine i_rng1 (by omega) (by omega) ?_
    refine for_it walk_range (fun i σ H' => WebW K H hd c l m y i H' ∧ ∃ v x, σ = [some (.ref hd), some (.int m), some (.int kind), some (.ref l), some (.int (0 + (y : Int))), v, x]) ⟨hW, _, _, rfl⟩ (fun _ _ _ _ _ => trivial) ?_ ?_
    · rintro x _ σ _ H4 hx ⟨⟨ls, ws, g4, hh4, h4, hd4, hp, hz⟩, v, x', rfl⟩ ⟨rfl, rfl⟩
      refine w_seqM (fun σ H' => ∃ b : Bool, σ = [some (.ref hd), some (.int m), some (.int kind), some (.ref l), some (.int (0 + (y : Int))), some (.int (0 + (x : Int))), some (.bl b)] ∧ G (some (hd, c)) H4 H') (fun N kN => ?_) ?_
      · walk_at "ws"
        refine ⟨_, rfl, ?_⟩
        walk_at "ws"
        refine ⟨sz (by simp), fun q H5 hq g5 h5 => ?_⟩
        refine ⟨q, _, rfl, .inl (SqL.of h5), rfl, rfl, ?_⟩
        walk_at "ws"
        refine ⟨_, rfl, ?_⟩
        walk_at "ws"
        refine w_ite (fun e => ?_) (fun e => ?_) <;>
        · walk_at "ws"
          refine ⟨sz (by simp), fun p H6 hp g6 h6 => ?_⟩
          walk_at "ws"
          refine ⟨_, _, rfl, ?_⟩
          refine r_ixL (SqL.of h6) (at4 (by split <;> omega) (by split <;> omega)).choose_spec ?_
          walk_at "ws"
          exact kN _ _ ⟨_, rfl, (g5 _).trans (g6 _)⟩
      · rintro σ H5 ⟨b, rfl, g5⟩
        have hh5 := g5.hand _ rfl hh4
        refine w_seqM (fun σ H' => ∃ b : Bool, σ = [some (.ref hd), some (.int m), some (.int kind), some (.ref l), some (.int (0 + (y : Int))), some (.int (0 + (x : Int))), some (.bl b)] ∧ G (some (hd, c)) H4 H') (fun N kN => ?_) ?_
        · walk_at "ws"
          refine w_ite (fun e => ?_) (fun e => ?_)
          · walk_at "ws"
            refine ⟨hd, c, 4, rfl, hh5, by decide, by decide, fun r H6 r0 r1 g6 hh6 => ?_⟩
            walk_at "ws"
            exact kN _ _ ⟨_, rfl, g5.trans g6⟩
          · walk_at "ws"
            exact kN _ _ ⟨_, rfl, g5⟩
        · clear g5 hh5
          rintro σ H5 ⟨b, rfl, g5⟩
          have hh5 := g5.hand _ rfl hh4
          have h5 := g5.keep l _ offl h4
          have hd5 := hd4.g g5 (fun p e => by cases e; exact hh4)
          have g05 := g4.trans g5
          have done : WebW K H hd c l m y ((x : Int) + 1) H5 := ⟨ls, ws, g05, hh5, h5, hd5, hp.up (by omega), hz⟩
          walk_at "ws"
          refine w_ite (fun e => ?_) (fun e => ?_)
          · walk_at "ws"
            refine w_ite (fun eb => ?_) (fun eb => ?_)
            · walk_at "ws"
              refine i_BM h5 ?_
              walk_at "ws"
              refine ⟨sz (by simp), fun t H6 ht g6 h6 => ?_⟩
              have h6l := (g6 none).all _ _ h5
              have hd6 := hd5.g (g6 none) (fun _ e => nomatch e)
              walk_at "ws"
              refine r_app h6l (by rw [List.length_map]; omega) ?_
              walk_at "ws"
              have g06 := g05.trans (g6 _)
              have g07 : G (some (hd, c)) H (upd H6 l (.lst (ls.map V.ref ++ [.ref t]))) := g06.mut l0 (fun p e => by cases e; exact hh)
              have hp' := hp.app (y := y) (x := x) (by omega) (by omega) (by
                have := e
                simp at this
                omega)
              have hdt : H6 t = some (.tup [.int (y : Int), .int (x : Int)]) := by
                have z := h6
                simp only [Int.zero_add] at z
                exact z
              refine ⟨⟨ls ++ [t], ws ++ [((y : Int), (x : Int))], g07, g07.hand _ rfl hh, by rw [upd_same, List.map_append]; rfl, ?_, hp', ?_⟩, _, _, rfl⟩
              · exact (hd6.app (u := ((y : Int), (x : Int))) hdt).put h6l
              · have l1 := part_len hp' m7
                have l2 := hd6.1
                simp only [List.length_append, List.length_singleton] at l1 l2 ⊢
                omega
            · walk_at "ws"
              exact ⟨done, _, _, rfl⟩
          · walk_at "ws"
            exact ⟨done, _, _, rfl⟩
    · rintro σ H4 ⟨⟨ls, ws, g4, hh4, h4, hd4, hp, hz⟩, v, x', rfl⟩
      exact ⟨⟨ls, ws, g4, hh4, h4, hd4, hp.up (by omega), hz⟩, _, _, _, rfl⟩
  · rintro σ H4 ⟨⟨ls, ws, g4, hh4, h4, hd4, hp, hz⟩, u, v, x', rfl⟩
    walk_at "ws"
    refine ⟨l, _, rfl, .inl ⟨SqL.of h4, fun p H5 hp5 g5 h5 => ?_⟩⟩
    exact k p ls ws H5 (g4.trans (g5 _)) ((g5 (some (hd, c))).hand (hd, c) rfl hh4) (SqT.of h5) (hd4.g (g5 none) fun _ e => nomatch e) ⟨m1, m7, hp.mem, hp.asc⟩

end
end Mine
/-! ## K9 -/


namespace Mine
section
variable {P : Program} {w : World} {K : PySem.W.Frag} {mg : Str → Option Value} {base : Heap} {a : Ads}

/-! ### _law_deep -/
theorem at_ab {C hd : Addr} {H : Hp} {xs : List V} {ts : List Tg} {r : Int} (h : AbAll C hd H xs ts) (r0 : 0 ≤ r) (r1 : r < xs.length) : ∃ v t, atI xs r = some v ∧ t ∈ ts ∧ Ab C hd H v t := by
  have l : r.toNat < xs.length := by omega
  obtain ⟨t, hm, ht⟩ := h.get (List.getElem?_eq_getElem l)
  exact ⟨_, t, at_of (j := r.toNat) (by omega) (List.getElem?_eq_getElem l), List.mem_of_getElem? hm, ht⟩
theorem ab_ins {C hd x dx : Addr} {fs : List (Str × V)} {H : Hp} (n : x ≠ hd) (h : H x = some (.ins C dx fs)) : Ab C hd H (.ref x) .oth := .oth n (.inr (.inr ⟨dx, fs, h⟩))
theorem ab_lst {C hd x : Addr} {xs : List V} {H : Hp} (n : x ≠ hd) (h : H x = some (.lst xs)) : Ab C hd H (.ref x) .oth := .oth n (.inl ⟨xs, h⟩)
theorem ab_dK {C hd x : Addr} {xs : List (Key × V)} {H : Hp} (n : x ≠ hd) (h : H x = some (.dK xs)) : Ab C hd H (.ref x) .oth := .oth n (.inr (.inl ⟨xs, h⟩))
theorem w_dnew {o : Option (Addr × Addr)} {σ : L2.St} {H : Hp} {Q : VK} (q : ∀ p H1, H p = none → (∀ o, G o H H1) → H1 p = some (.dK []) → Q (.ref p) H1) : tDNewK σ H Q := fun p hp => q p _ hp (fun _ => G.alloc hp) upd_same
theorem w_disp1 {σ : L2.St} {H : Hp} {Q : VK} {k : Int} {i : Nat} {v : V} (e : σ[i]? = some (some v)) (q : ∀ p kvs H1, H p = none → (∀ o, G o H H1) → H1 p = some (.dK kvs) → Q (.ref p) H1) : tDisp [(tC (.int k), tVar i)] σ H Q := fun p hp =>
  ⟨v, e, upd_same, [(Sum.inl k, v)], rfl, by simp, q p _ _ hp (fun _ => G.of_all fun b u z => by rw [upd_ne (ne_of_none z hp), upd_ne (ne_of_none z hp)]; exact z) upd_same⟩
def sp__law_deep (C : Addr) : Sp := fun vs H Q _ => ∃ (hd c : Addr), vs = [.ref hd] ∧ Hand H hd c ∧ ∀ (v : V) (t : Tg) H', G (some (hd, c)) H H' → Hand H' hd c → Ab C hd H' v t → smT t = true → Q v H'
theorem ok__law_deep (T : Txt K mg a) : FnOk P w K mg base CX0 2 a.f__law_deep a.d__law_deep P__law_deep (sp__law_deep a.c_Record) := by
  refine T.F__law_deep.ok sc__law_deep (fun vs H Q E h => by obtain ⟨hd, c, rfl, _⟩ := h; rfl) (fun cdv A outer s H vs Q E hr h => ?_)
  obtain ⟨hd, c, rfl, hh, k⟩ := h
  have G__law_draw : FnOk P w K mg base CX0 1 a.f__law_draw a.d__law_draw P__law_draw sp__law_draw := ok__law_draw T
  refine ⟨_, (pss_cons (ps_set (i := 1) sc__law_deep.nd rfl (Or.inl rfl) (pe_ix ix_list (pe_lstN (pa_cons pe_non (pa_cons pe_str (pa_cons (pe_un un_neg pe_int) (pa_cons pe_dnewK pa_nil))))) (pe_call (G__law_draw) (hr.mono (by omega)) rfl T.m__law_draw T.F__law_draw.kp T.b__law_draw .nil pass0 (pa_cons (pv 0) (pa_cons pe_int pa_nil))) (fun _ _ => rfl)))
  (pss_cons (ps_for PassesOwn.never rfl (pi_range1 rfl T.n_range (pa_cons (pe_op op_add pe_int (pe_call (G__law_draw) (hr.mono (by omega)) rfl T.m__law_draw T.F__law_draw.kp T.b__law_draw .nil pass0 (pa_cons (pv 0) (pa_cons pe_int pa_nil)))) pa_nil)) (pg_name (i := 2) sc__law_deep.nd rfl (Or.inl rfl))
    (pss_one (ps_set (i := 1) sc__law_deep.nd rfl (Or.inl rfl) (pe_ix ix_list (pe_lstN (pa_cons (pe_tupN (pa_cons (pv 1) pa_nil)) (pa_cons (pe_lstN (pa_cons (pv 1) pa_nil)) (pa_cons (pe_slice sl_tupR (pe_tupN (pa_cons (pv 1) (pa_cons (pv 1) pa_nil))) po_none (po_some pe_int)) (pa_cons (pe_disp (pps_cons pe_int (pv 1) pps_nil) rfl rfl (by simp) (by decide)) pa_nil))))) (pe_call (G__law_draw) (hr.mono (by omega)) rfl T.m__law_draw T.F__law_draw.kp T.b__law_draw .nil pass0 (pa_cons (pv 0) (pa_cons pe_int pa_nil))) (fun _ _ => rfl)))))
  (pss_one (ps_ret (pv 1))))), ?_⟩
  walk_at "ws"
  refine w_dnew (o := none) fun p H1 hp g1 h1 => ?_
  walk_at "ws"
  refine ⟨sz (by simp), fun l H2 hl g2 h2 => ?_⟩
  have g02 := (g1 none).trans (g2 none)
  have hh2 := g02.up.hand (hd, c) rfl hh
  walk_at "ws"
  refine ⟨hd, c, 4, rfl, hh2, by decide, by decide, fun r H3 r0 r1 g3 hh3 => ?_⟩
  have g03 := g02.up.trans g3
  have npd : p ≠ hd := hh.ne hp
  have nld : l ≠ hd := ((g1 none).up.hand (hd, c) rfl hh).ne hl
  have h3l := g3.keep l _ (fun q e => by cases e; exact nld) h2
  have h3p := g3.keep p _ (fun q e => by cases e; exact npd) ((g2 none).all _ _ h1)
  have al : AbAll a.c_Record hd H3 [.non, .str "a", .int (-1), .ref p] [.non, .str "a", .int (-1), .oth] := .cons .non (.cons (.str _) (.cons (.int _) (.cons (ab_dK npd h3p) .nil)))
  obtain ⟨v0, t0, e0, m0, hv0⟩ := at_ab al r0 (by simpa using r1)
  have s0 : smT t0 = true := by
    simp only [List.mem_cons, List.not_mem_nil, or_false] at m0
    rcases m0 with rfl | rfl | rfl | rfl <;> rfl
  refine r_ixL (SqL.of h3l) e0 ?_
  clear e0 al m0 h3l h3p h2 h1 hp hl g1 g2 g3 g02 hh2
  walk_at "ws"
  refine ⟨hd, c, 30, rfl, hh3, by decide, by decide, fun n H4 n0 n1 g4 hh4 => ?_⟩
  walk_at "ws"
  refine i_rng1 (by omega) (by omega) ?_
  refine for_it walk_range (fun i σ H' => G (some (hd, c)) H H' ∧ Hand H' hd c ∧ ∃ v t u, smT t = true ∧ Ab a.c_Record hd H' v t ∧ σ = [some (.ref hd), some v, u]) ⟨g03.trans g4, hh4, v0, t0, _, s0, hv0.g g4 OH.s, rfl⟩ (fun _ _ _ _ _ => trivial) ?_ ?_
  · rintro i _ σ _ H5 hi ⟨g5, hh5, v, t, u, sm, hv, rfl⟩ ⟨rfl, rfl⟩
    walk_at "ws"
    refine ⟨sz (by simp), fun p1 H6 hp1 g6 h6 => ?_⟩
    walk_at "ws"
    refine ⟨sz (by simp), fun p2 H7 hp2 g7 h7 => ?_⟩
    walk_at "ws"
    refine ⟨sz (by simp), fun p3 H8 hp3 g8 h8 => ?_⟩
    walk_at "ws"
    refine ⟨p3, _, rfl, .inl h8, fun p4 H9 g9 r9 => ?_⟩
    walk_at "ws"
    refine w_disp1 rfl fun p5 kvs HA hp5 gA hA => ?_
    walk_at "ws"
    refine ⟨sz (by simp), fun p6 HB hp6 gB hB => ?_⟩
    have q9B := (gA none).trans (gB none)
    have q8B := (g9 none).trans q9B
    have q7B := (g8 none).trans q8B
    have q6B := (g7 none).trans q7B
    have q5B := (g6 none).trans q6B
    have hhB := q5B.up.hand (hd, c) rfl hh5
    walk_at "ws"
    refine ⟨hd, c, 4, rfl, hhB, by decide, by decide, fun r HC r0 r1 gC hhC => ?_⟩
    have hvB := hv.n q5B
    have hhA := (((((g6 none).trans (g7 none)).trans (g8 none)).trans (g9 none)).trans (gA none)).up.hand (hd, c) rfl hh5
    have hh6 := (g6 none).up.hand (hd, c) rfl hh5
    have hh9 := ((((g6 none).trans (g7 none)).trans (g8 none)).trans (g9 none)).up.hand (hd, c) rfl hh5
    have n6 : p6 ≠ hd := hhA.ne hp6
    have n2 : p2 ≠ hd := hh6.ne hp2
    have n5 : p5 ≠ hd := hh9.ne hp5
    have al : AbAll a.c_Record hd HB [.ref p1, .ref p2, .ref p4, .ref p5] [.tup [t], .oth, .tup [t], .oth] :=
      .cons (.tup (.inl (q6B.all _ _ h6)) (.cons hvB .nil)) (.cons (ab_lst n2 (q7B.all _ _ h7)) (.cons (.tup (q9B.tups _ _ r9) (.cons hvB .nil)) (.cons (ab_dK n5 ((gB none).all _ _ hA)) .nil)))
    have hC6 := gC.keep p6 _ (fun q e => by cases e; exact n6) hB
    obtain ⟨v', t', e', m', hv'⟩ := at_ab (al.g gC OH.s) r0 (by simpa using r1)
    have s1 : smT (.tup [t]) = true := smT_of (by simp) fun z hz => by
      have e : z = t := by simpa using hz
      rw [e]; exact sm
    have s' : smT t' = true := by
      simp only [List.mem_cons, List.not_mem_nil, or_false] at m'
      rcases m' with rfl | rfl | rfl | rfl <;> first | exact s1 | rfl
    refine r_ixL (SqL.of hC6) e' ?_
    exact ⟨(g5.trans q5B.up).trans gC, hhC, v', t', _, s', hv', rfl⟩
  · rintro σ H5 ⟨g5, hh5, v, t, u, sm, hv, rfl⟩
    walk_at "ws"
    exact k v t H5 g5 hh5 hv sm

def sp__law_is_whole (C : Addr) : Sp := fun vs H Q _ => ∃ (b : Int) (hd : Addr) (v : V) (t : Tg), vs = [v, .int b] ∧ Ab C hd H v t ∧ Q (.bl (blw b t)) H
theorem ok__law_is_whole (T : Txt K mg a) : FnOk P w K mg base CX0 1 a.f__law_is_whole a.d__law_is_whole P__law_is_whole (sp__law_is_whole a.c_Record) := by
  refine T.F__law_is_whole.ok sc__law_is_whole (fun vs H Q E h => by obtain ⟨b, hd, v, t, rfl, _⟩ := h; rfl) (fun cdv A outer s H vs Q E hr h => ?_)
  obtain ⟨b, hd, v, t, rfl, ha, k⟩ := h
  refine ⟨_, (pss_one (ps_ret (pe_and (pe_callB call_isi (by rfl) T.n_isinstance (by decide +kernel) (pa_cons (pv 0) (pa_cons (pe_bltn (v := .ty "int") (u := .type "int") rfl T.n_int (by decide +kernel) rfl) pa_nil))) (pe_and (pe_not (pe_callB call_isi (by rfl) T.n_isinstance (by decide +kernel) (pa_cons (pv 0) (pa_cons (pe_bltn (v := .ty "bool") (u := .type "bool") rfl T.n_bool (by decide +kernel) rfl) pa_nil)))) (pe_one (pe_chain op_le op_lt pe_int (pv 0) (pv 1))))))), ?_⟩
  walk_at "ws"
  refine ab_isi T.ik ha (.inl rfl) ?_
  walk_at "ws"
  have bf : ∀ {t : Tg}, isI t = false → blw b t = false := fun {t} e => by cases t <;> first | rfl | exact Bool.noConfusion (show true = false from e)
  refine w_ite (fun e => ?_) (fun e => ?_)
  · walk_at "ws"
    refine ab_isi T.ik ha (.inr (.inl rfl)) ?_
    walk_at "ws"
    rw [← isI_t e]
    refine w_ite (fun e => ?_) (fun e => ?_)
    · obtain ⟨i, rfl, rfl⟩ := isI_int ha e
      have k : Q (.bl (decide (0 ≤ i) && decide (i < b))) H := k
      walk_at "ws"
      refine w_ite (fun e => ?_) (fun e => ?_)
      · walk_at "ws"
        rw [e] at k
        exact k
      · rw [e] at k
        exact k
    · rw [bf e] at k
      exact k
  · rw [bf (isI_f e)] at k
    exact k

def sp__law_is_sized (C : Addr) : Sp := fun vs H Q _ => ∃ (lo hi : Int) (hd : Addr) (v : V) (t : Tg), vs = [v, .int lo, .int hi] ∧ Ab C hd H v t ∧ Q (.bl (tsz lo hi t)) H
theorem ok__law_is_sized (T : Txt K mg a) : FnOk P w K mg base CX0 1 a.f__law_is_sized a.d__law_is_sized P__law_is_sized (sp__law_is_sized a.c_Record) := by
  refine T.F__law_is_sized.ok sc__law_is_sized (fun vs H Q E h => by obtain ⟨lo, hi, hd, v, t, rfl, _⟩ := h; rfl) (fun cdv A outer s H vs Q E hr h => ?_)
  obtain ⟨lo, hi, hd, v, t, rfl, ha, k⟩ := h
  refine ⟨_, (pss_one (ps_ret (pe_and (pe_callB call_isi (by rfl) T.n_isinstance (by decide +kernel) (pa_cons (pv 0) (pa_cons (pe_bltn (v := .ty "tuple") (u := .type "tuple") rfl T.n_tuple (by decide +kernel) rfl) pa_nil))) (pe_one (pe_chain op_le op_le (pv 1) (pe_callB call_len_seq (by rfl) T.n_len (by decide +kernel) (pa_cons (pv 0) pa_nil)) (pv 2)))))), ?_⟩
  walk_at "ws"
  refine ab_isi T.ik ha (.inr (.inr (.inr rfl))) ?_
  walk_at "ws"
  refine w_ite (fun e => ?_) (fun e => ?_)
  · obtain ⟨p, xs, ts, rfl, rfl, r, al⟩ := tup_of ha e
    have k : Q (.bl (decide (lo ≤ ts.length) && decide ((ts.length : Int) ≤ hi))) H := k
    walk_at "ws"
    refine ⟨p, xs, rfl, .inr (.inl r), ?_⟩
    rw [al.length]
    walk_at "ws"
    refine w_ite (fun e => ?_) (fun e => ?_)
    · walk_at "ws"
      rw [e] at k
      exact k
    · rw [e] at k
      exact k
  · rw [tsz_f e] at k
    exact k

end
end Mine
/-! ## K10 -/


namespace Mine
section
variable {P : Program} {w : World} {K : PySem.W.Frag} {mg : Str → Option Value} {base : Heap} {a : Ads}

/-! ### _law_odd -/
theorem big30 : CPow 10 30 := ⟨by decide, by decide, by decide⟩
def sp__law_odd (C : Addr) : Sp := fun vs H Q _ => ∃ (hd c : Addr), vs = [.ref hd] ∧ Hand H hd c ∧ ∀ (v : V) (t : Tg) H', G (some (hd, c)) H H' → Hand H' hd c → Ab C hd H' v t → smT t = true → Q v H'
theorem ok__law_odd (T : Txt K mg a) : FnOk P w K mg base CX0 9 a.f__law_odd a.d__law_odd P__law_odd (sp__law_odd a.c_Record) := by
  refine T.F__law_odd.ok sc__law_odd (fun vs H Q E h => by obtain ⟨hd, c, rfl, _⟩ := h; rfl) (fun cdv A outer s H vs Q E hr h => ?_)
  obtain ⟨hd, c, rfl, hh, k⟩ := h
  have G__law_draw : FnOk P w K mg base CX0 1 a.f__law_draw a.d__law_draw P__law_draw sp__law_draw := ok__law_draw T
  have G__law_deep : FnOk P w K mg base CX0 2 a.f__law_deep a.d__law_deep P__law_deep (sp__law_deep a.c_Record) := ok__law_deep T
  have G_Record_init : FnOk P w K mg base (L2.CX P w) 7 a.f_Record_init a.d_Record_init P_Record_init (sp_Record_init a.c_Record a.c_BadRecord) := ok_Record_init T
  refine ⟨_, (pss_cons (ps_set (i := 1) sc__law_odd.nd rfl (Or.inl rfl) (pe_lstN (pa_cons pe_non (pa_cons pe_bl (pa_cons pe_bl (pa_cons (pe_un un_neg pe_int) (pa_cons pe_int (pa_cons pe_int (pa_cons pe_str (pa_cons (pe_tupN pa_nil) (pa_cons (pe_lstN pa_nil) (pa_cons pe_dnewK (pa_cons (pe_tupN (pa_cons pe_int pa_nil)) (pa_cons (pe_tupN (pa_cons pe_int (pa_cons pe_int pa_nil))) (pa_cons (pe_lstN (pa_cons pe_int pa_nil)) (pa_cons (pe_op op_pow pe_int pe_int) (pa_cons (pe_make T.K_Record G_Record_init (hr.mono (j := 8) (by decide)) rfl T.m_Record T.b_Record_init .nil passE0 (pa_cons (pe_tupN pa_nil) (pa_cons (pe_tupN (pa_cons (pe_tupN pa_nil) pa_nil)) pa_nil))) (pa_cons pe_int pa_nil))))))))))))))))))
  (pss_one (ps_ret (pe_ix ix_list (pe_op op_catLN (pv 1) (pe_lstN (pa_cons (pe_call (G__law_deep) (hr.mono (by omega)) rfl T.m__law_deep T.F__law_deep.kp T.b__law_deep .nil pass0 (pa_cons (pv 0) pa_nil)) (pa_cons (pe_tupN (pa_cons pe_bl pa_nil)) pa_nil)))) (pe_call (G__law_draw) (hr.mono (by omega)) rfl T.m__law_draw T.F__law_draw.kp T.b__law_draw .nil pass0 (pa_cons (pv 0) (pa_cons pe_int pa_nil))) (fun _ _ => rfl))))), ?_⟩
  walk_at "ws"
  refine ⟨sz (by simp), fun p1 H1 hp1 g1 h1 => ?_⟩
  walk_at "ws"
  refine ⟨sz (by simp), fun p2 H2 hp2 g2 h2 => ?_⟩
  walk_at "ws"
  refine w_dnew (o := none) fun p3 H3 hp3 g3 h3 => ?_
  walk_at "ws"
  refine ⟨sz (by simp), fun p4 H4 hp4 g4 h4 => ?_⟩
  walk_at "ws"
  refine ⟨sz (by simp), fun p5 H5 hp5 g5 h5 => ?_⟩
  walk_at "ws"
  refine ⟨sz (by simp), fun p6 H6 hp6 g6 h6 => ?_⟩
  walk_at "ws"
  refine r_I big30 ?_
  walk_at "ws"
  refine ⟨sz (by simp), fun p7 H7 hp7 g7 h7 => ?_⟩
  walk_at "ws"
  refine ⟨sz (by simp), fun p8 H8 hp8 g8 h8 => ?_⟩
  walk_at "ws"
  refine ⟨sz (by simp), fun p9 H9 hp9 g9 h9 => ?_⟩
  walk_at "ws"
  refine make_rec (hd := hd) (tw := .tup []) (td := .tup [.tup []]) (.tup (.inl ((g9 none).all _ _ ((g8 none).all _ _ h7))) .nil) (.tup (.inl h9) (.cons (.tup (.inl ((g9 none).all _ _ h8)) .nil) .nil)) rfl (fun _ pb dx HB hpb gb hb => ?_) (fun p y ee => by rw [show due (.tup []) (.tup [.tup []]) = none from rfl] at ee; cases ee)
  walk_at "ws"
  refine ⟨sz (by simp), fun pa Ha hpa ga ha => ?_⟩
  have qb := ga none
  have q9 := (gb none).trans qb
  have q6 := (((g7 none).trans (g8 none)).trans (g9 none)).trans q9
  have q5 := (g6 none).trans q6
  have q4 := (g5 none).trans q5
  have q3 := (g4 none).trans q4
  have q2 := (g3 none).trans q3
  have q1 := (g2 none).trans q2
  have q0 := (g1 none).trans q1
  have u1 := g1 none
  have u2 := u1.trans (g2 none)
  have u5 := ((u2.trans (g3 none)).trans (g4 none)).trans (g5 none)
  have u9 := (((u5.trans (g6 none)).trans (g7 none)).trans (g8 none)).trans (g9 none)
  have n2 : p2 ≠ hd := (u1.up.hand (hd, c) rfl hh).ne hp2
  have n3 : p3 ≠ hd := (u2.up.hand (hd, c) rfl hh).ne hp3
  have n6 : p6 ≠ hd := (u5.up.hand (hd, c) rfl hh).ne hp6
  have nb : pb ≠ hd := (u9.up.hand (hd, c) rfl hh).ne hpb
  have na : pa ≠ hd := ((u9.trans (gb none)).up.hand (hd, c) rfl hh).ne hpa
  have hha := q0.up.hand (hd, c) rfl hh
  obtain ⟨ts, al, smts⟩ : ∃ ts, AbAll a.c_Record hd Ha [.non, .bl true, .bl false, .int (-1), .int 30, .int 7, .str "0", .ref p1, .ref p2, .ref p3, .ref p4, .ref p5, .ref p6, .int (10 ^ (30 : Int).toNat), .ref pb, .int 1] ts ∧ smTs ts = true :=
    ⟨_, .cons .non (.cons (.bl _) (.cons (.bl _) (.cons (.int _) (.cons (.int _) (.cons (.int _) (.cons (.str _)
      (.cons (.tup (.inl (q1.all _ _ h1)) .nil) (.cons (ab_lst n2 (q2.all _ _ h2)) (.cons (ab_dK n3 (q3.all _ _ h3))
      (.cons (.tup (.inl (q4.all _ _ h4)) (.cons (.int _) .nil)) (.cons (.tup (.inl (q5.all _ _ h5)) (.cons (.int _) (.cons (.int _) .nil)))
      (.cons (ab_lst n6 (q6.all _ _ h6)) (.cons (.int _) (.cons (ab_ins nb (qb.all _ _ hb)) (.cons (.int _) .nil))))))))))))))), rfl⟩
  have la : ∃ L : List V, L = [.non, .bl true, .bl false, .int (-1), .int 30, .int 7, .str "0", .ref p1, .ref p2, .ref p3, .ref p4, .ref p5, .ref p6, .int (10 ^ (30 : Int).toNat), .ref pb, .int 1] := ⟨_, rfl⟩
  obtain ⟨L, eL⟩ := la
  rw [← eL] at al ha
  have l16 : L.length = 16 := by rw [eL]; rfl
  clear eL h1 h2 h3 h4 h5 h6 h7 h8 h9 hb qb q9 q6 q5 q4 q3 q2 q1 u1 u2 u5 u9 n2 n3 n6 nb hp1 hp2 hp3 hp4 hp5 hp6 hp7 hp8 hp9 hpb g1 g2 g3 g4 g5 g6 g7 g8 g9 gb
  walk_at "ws"
  refine ⟨hd, c, rfl, hha, fun v t Hb gb hhb hv smt => ?_⟩
  walk_at "ws"
  refine ⟨sz (by simp), fun pc Hc hpc gc hc => ?_⟩
  walk_at "ws"
  refine ⟨sz (by simp), fun pd Hd hpd gd hd2 => ?_⟩
  have hcL := gb.keep pa _ (fun q e => by cases e; exact na) ha
  have hdL := (gd none).all _ _ ((gc none).all _ _ hcL)
  refine ⟨pa, pd, L, [v, .ref pc], rfl, rfl, hdL, hd2, by rw [l16]; simp, fun pe He hpe ge he => ?_⟩
  have gbe := ((gc none).trans (gd none)).trans (ge none)
  have hhe := gbe.up.hand (hd, c) rfl hhb
  have ne : pe ≠ hd := (((gc none).trans (gd none)).up.hand (hd, c) rfl hhb).ne hpe
  have alE : AbAll a.c_Record hd He (L ++ [v, .ref pc]) (ts ++ [t, .tup [.bl true]]) :=
    ((al.g gb OH.s).n gbe).app (.cons (hv.n gbe) (.cons (.tup (.inl (((gd none).trans (ge none)).all _ _ hc)) (.cons (.bl _) .nil)) .nil))
  walk_at "ws"
  refine ⟨hd, c, 18, rfl, hhe, by decide, by decide, fun r Hf r0 r1 gf hhf => ?_⟩
  have hf := gf.keep pe _ (fun q e => by cases e; exact ne) he
  obtain ⟨v', t', e', m', hv'⟩ := at_ab (alE.g gf OH.s) r0 (by rw [List.length_append, l16]; simpa using r1)
  refine r_ixL (SqL.of hf) e' ?_
  have s' : smT t' = true := by
    rcases List.mem_append.mp m' with z | z
    · exact smTs_all smts _ z
    · simp only [List.mem_cons, List.not_mem_nil, or_false] at z
      rcases z with rfl | rfl
      · exact smt
      · rfl
  exact k v' t' Hf (((q0.up.trans gb).trans gbe.up).trans gf) hhf hv' s'

end
end Mine
/-! ## K11 -/


namespace Mine
section
variable {P : Program} {w : World} {K : PySem.W.Frag} {mg : Str → Option Value} {base : Heap} {a : Ads}

/-! ### puts and letters led by drawn steps: words -/
def Dia (K : PySem.W.Frag) (H : Hp) (p : Addr) (ds : List (List Int)) : Prop := ∃ bs : List Addr, SqT K H p (bs.map V.ref) ∧ bs.length = ds.length ∧ ∀ (i : Nat) (b : Addr) (d : List Int), bs[i]? = some b → ds[i]? = some d → FrzT H b (d.map V.int)
theorem Dia.g {H H' : Hp} {p : Addr} {ds : List (List Int)} {o : Option (Addr × Addr)} (h : Dia K H p ds) (g : G o H H') (hh : ∀ q, o = some q → Hand H q.1 q.2) : Dia K H' p ds := by
  obtain ⟨bs, h1, h2, h3⟩ := h
  refine ⟨bs, sqT_t g.tups h1, h2, fun i b d e1 e2 => ?_⟩
  obtain ⟨ob, q1, q2⟩ := h3 i b d e1 e2
  refine ⟨ob, g.keep b _ (fun q e => ?_) q1, q2⟩
  obtain ⟨_, _, _, _, _, _, z, _⟩ := hh q e
  exact ne_of q1 z (by intro z; cases z)
theorem Dia.n {H H' : Hp} {p : Addr} {ds : List (List Int)} (h : Dia K H p ds) (g : G none H H') : Dia K H' p ds := h.g g fun _ e => nomatch e
theorem Dia.at_ {H : Hp} {p : Addr} {bs : List Addr} {ds : List (List Int)} (h2 : bs.length = ds.length) (h3 : ∀ (i : Nat) (b : Addr) (d : List Int), bs[i]? = some b → ds[i]? = some d → FrzT H b (d.map V.int)) {i : Nat} {x : V} (e : (bs.map V.ref)[i]? = some x) :
    ∃ b d, x = .ref b ∧ bs[i]? = some b ∧ ds[i]? = some d ∧ FrzT H b (d.map V.int) := by
  rw [List.getElem?_map] at e
  obtain ⟨b, hb, rfl⟩ := Option.map_eq_some_iff.mp e
  have hi := (List.getElem?_eq_some_iff.mp hb).1
  exact ⟨b, ds[i], rfl, hb, List.getElem?_eq_getElem (by omega), h3 i b _ hb (List.getElem?_eq_getElem (by omega))⟩
structure IsRec (ws : List Int) (ds : List (List Int)) : Prop where
  m1 : 1 ≤ ds.length
  m7 : ds.length ≤ 7
  p30 : ws.length ≤ 30
  wr : ∀ w ∈ ws, 0 ≤ w ∧ w < ds.length
  nd : ∀ d ∈ ds, d.Nodup
  rng : ∀ d ∈ ds, ∀ p ∈ d, 0 ≤ p ∧ p < ws.length
  own : ∀ (p : Nat) (w : Int) (d : List Int), ws[p]? = some w → ds[w.toNat]? = some d → (p : Int) ∈ d
theorem diary_len {n : Nat} {d : List Int} (nd : d.Nodup) (h : ∀ p ∈ d, 0 ≤ p ∧ p < (n : Int)) : d.length ≤ n := by
  have := List.Nodup.length_le_of_subset (l₂ := (List.range n).map fun (i : Nat) => (i : Int)) nd fun x hx => by
    have := h x hx
    exact List.mem_map.mpr ⟨x.toNat, List.mem_range.mpr (by omega), by omega⟩
  simpa using this
theorem idx_lt {os : List Int} {z : Int} (h : z ∈ os) : os.idxOf z < os.length := List.idxOf_lt_length_iff.mpr h
theorem idx_at {os : List Int} {z : Int} (h : z ∈ os) : os[os.idxOf z]? = some z := by
  rw [List.getElem?_eq_getElem (idx_lt h)]
  exact congrArg some (List.getElem_idxOf (idx_lt h))
theorem idx_of {os : List Int} (nd : os.Nodup) {j : Nat} {z : Int} (h : os[j]? = some z) : os.idxOf z = j := nd_ix nd (idx_at (List.mem_of_getElem? h)) h
def upto (n : Nat) : List Int := (List.range n).map fun (i : Nat) => (i : Int)
theorem perm_pop {os ls : List Int} {r : Nat} (h : r < ls.length) {l : List Int} (p : (os ++ ls).Perm l) : ((os ++ [ls[r]]) ++ ls.eraseIdx r).Perm l := by
  refine List.Perm.trans ?_ p
  rw [List.append_assoc]
  refine List.Perm.append_left os ?_
  have e := List.take_append_drop r ls
  have e2 : ls.drop r = ls[r] :: ls.drop (r + 1) := List.drop_eq_getElem_cons h
  rw [List.eraseIdx_eq_take_drop_succ]
  have : ls = ls.take r ++ ls[r] :: ls.drop (r + 1) := by rw [← e2, e]
  conv => rhs; rw [this]
  show (ls[r] :: (ls.take r ++ ls.drop (r + 1))).Perm _
  exact List.perm_middle.symm
theorem erase_ints (ls : List Int) (r : Nat) : (ls.map V.int).eraseIdx r = (ls.eraseIdx r).map V.int := erase_mapI ls r

theorem dia_app {H : Hp} {bs : List Addr} {ds : List (List Int)} {b : Addr} {d : List Int} (h2 : bs.length = ds.length) (h3 : ∀ (i : Nat) (b : Addr) (d : List Int), bs[i]? = some b → ds[i]? = some d → FrzT H b (d.map V.int)) (hb : FrzT H b (d.map V.int)) :
    ∀ (i : Nat) (b' : Addr) (d' : List Int), (bs ++ [b])[i]? = some b' → (ds ++ [d])[i]? = some d' → FrzT H b' (d'.map V.int) := fun i b' d' e1 e2 => by
  by_cases c : i < bs.length
  · rw [List.getElem?_append_left c] at e1
    rw [List.getElem?_append_left (by omega)] at e2
    exact h3 i b' d' e1 e2
  · rw [List.getElem?_append_right (by omega)] at e1
    rw [List.getElem?_append_right (by omega), ← h2] at e2
    cases q : i - bs.length with
    | zero =>
      rw [q] at e1 e2
      simp at e1 e2
      subst e1 e2
      exact hb
    | succ j =>
      rw [q] at e1
      simp at e1
theorem FrzT.g {H H' : Hp} {p : Addr} {xs : List V} {o : Option (Addr × Addr)} (h : FrzT H p xs) (g : G o H H') (hh : ∀ q, o = some q → Hand H q.1 q.2) : FrzT H' p xs := by
  obtain ⟨ob, h, d⟩ := h
  refine ⟨ob, g.keep p _ (fun q e => ?_) h, d⟩
  obtain ⟨_, _, _, _, _, _, z, _⟩ := hh q e
  exact ne_of h z (by intro z; cases z)
theorem FrzT.put {H : Hp} {p l : Addr} {xs ys : List V} {u : HO} (h : FrzT H p xs) (hl : H l = some (.lst ys)) : FrzT (upd H l u) p xs := by
  obtain ⟨ob, h, d⟩ := h
  exact ⟨ob, by rw [upd_ne (ne_of h hl (by intro z; cases z))]; exact h, d⟩
theorem mo_len {K : PySem.W.Frag} {i : Nat} : MoE (tCB (rLenK K) (tCons (tVar i) tNil)) := fun σ H Q Q' k ⟨v, e, p, ys, e1, e2, q⟩ => ⟨v, e, p, ys, e1, e2, k _ _ q⟩
theorem k_tupleF {X : Cx} (K : PySem.W.Frag) (hK : X.K = K := by rfl) : CallR X (.type "tuple") (rTupleF K) := by subst hK; exact call_tupleF
/-- the dict of letters: from a wire to the list of the letters on it -/
def keyOfP (u : Int × Int) : List L2.Key := [.inl u.1, .inl u.2]
def dtOf : List (Int × Int) → List Addr → List (List L2.Key × V)
  | u :: W, l :: ls => (keyOfP u, V.ref l) :: dtOf W ls
  | _, _ => []
theorem keyOfP_inj {u v : Int × Int} (e : keyOfP u = keyOfP v) : u = v := by
  unfold keyOfP at e
  simp only [List.cons.injEq, Sum.inl.injEq, and_true] at e
  exact Prod.ext e.1 e.2
theorem valT : ∀ {W : List (Int × Int)} {ls : List Addr} {i : Nat} {u : Int × Int} {l : Addr}, W.Nodup → W[i]? = some u → ls[i]? = some l → valV (dtOf W ls) (keyOfP u) = some (.ref l)
  | [], _, _, _, _, _, e, _ => by simp at e
  | _ :: _, [], _, _, _, _, _, e => by simp at e
  | v :: W, m :: ls, 0, u, l, _, e1, e2 => by
    simp only [List.getElem?_cons_zero, Option.some.injEq] at e1 e2
    subst e1 e2
    exact valV_pos rfl
  | v :: W, m :: ls, i + 1, u, l, nd, e1, e2 => by
    simp only [List.getElem?_cons_succ] at e1 e2
    have n := List.nodup_cons.mp nd
    refine (valV_neg (p := (keyOfP v, V.ref m)) fun z => ?_).trans (valT n.2 e1 e2)
    exact n.1 (keyOfP_inj z ▸ List.mem_of_getElem? e1)
/-- the pairs of which the dict is made -/
def mkL : List (Int × Int) → List Addr → List Addr → List Addr → List DPair
  | u :: W, b :: bs, t :: ts, l :: ls => ⟨t, keyOfP u, b, .ref l⟩ :: mkL W bs ts ls
  | _, _, _, _ => []
theorem mkL_at : ∀ {W : List (Int × Int)} {bs ts ls : List Addr}, bs.length = W.length → ts.length = W.length → ls.length = W.length → (mkL W bs ts ls).map (fun q => V.ref q.at_) = ts.map V.ref
  | [], [], [], [], _, _, _ => rfl
  | u :: W, b :: bs, t :: ts, l :: ls, h1, h2, h3 => by
    simp only [mkL, List.map_cons]
    rw [mkL_at (by simpa using h1) (by simpa using h2) (by simpa using h3)]
theorem mkL_dt : ∀ {W : List (Int × Int)} {bs ts ls : List Addr}, bs.length = W.length → ts.length = W.length → ls.length = W.length → (mkL W bs ts ls).map (fun q => (q.key, q.val)) = dtOf W ls
  | [], [], [], [], _, _, _ => rfl
  | u :: W, b :: bs, t :: ts, l :: ls, h1, h2, h3 => by
    simp only [mkL, dtOf, List.map_cons]
    rw [mkL_dt (by simpa using h1) (by simpa using h2) (by simpa using h3)]
theorem mkL_key : ∀ {W : List (Int × Int)} {bs ts ls : List Addr}, bs.length = W.length → ts.length = W.length → ls.length = W.length → (mkL W bs ts ls).map (fun q => q.key) = W.map keyOfP
  | [], [], [], [], _, _, _ => rfl
  | u :: W, b :: bs, t :: ts, l :: ls, h1, h2, h3 => by
    simp only [mkL, List.map_cons]
    rw [mkL_key (by simpa using h1) (by simpa using h2) (by simpa using h3)]
theorem mkL_mem : ∀ {W : List (Int × Int)} {bs ts ls : List Addr} {q : DPair}, q ∈ mkL W bs ts ls → ∃ (j : Nat) (u : Int × Int) (b t l : Addr), W[j]? = some u ∧ bs[j]? = some b ∧ ts[j]? = some t ∧ ls[j]? = some l ∧ q = ⟨t, keyOfP u, b, .ref l⟩
  | u :: W, b :: bs, t :: ts, l :: ls, q, h => by
    simp only [mkL, List.mem_cons] at h
    rcases h with rfl | h
    · exact ⟨0, u, b, t, l, rfl, rfl, rfl, rfl, rfl⟩
    · obtain ⟨j, u', b', t', l', h1, h2, h3, h4, h5⟩ := mkL_mem h
      exact ⟨j + 1, u', b', t', l', h1, h2, h3, h4, h5⟩
  | [], _, _, _, _, h => by simp [mkL] at h
  | _ :: _, [], _, _, _, h => by simp [mkL] at h
  | _ :: _, _ :: _, [], _, _, h => by simp [mkL] at h
  | _ :: _, _ :: _, _ :: _, [], _, h => by simp [mkL] at h
theorem rg_upto (n : Nat) : rgV 0 (n : Int) = (upto n).map V.int := by
  unfold rgV upto
  rw [List.map_map, Int.sub_zero, Int.toNat_natCast]
  refine List.map_congr_left fun i _ => ?_
  show V.int (0 + ((i : Nat) : Int)) = V.int ((i : Nat) : Int)
  rw [Int.zero_add]
theorem isweb_len49 {m : Int} {ws : List (Int × Int)} (h : IsWeb m ws) : ws.length ≤ 49 := by
  have hn : (ws.map fun u => (u.1 * 7 + u.2).toNat).Nodup := by
    have : (ws.map fun u => (u.1 * 7 + u.2).toNat).Pairwise (· < ·) := by
      rw [List.pairwise_map]
      refine List.Pairwise.imp_of_mem (fun {u v} hu hv huv => ?_) h.asc
      have h1 := h.mem u hu
      have h2 := h.mem v hv
      have := h.hi
      unfold ltP at huv
      omega
    exact this.imp fun h => Nat.ne_of_lt h
  have := List.Nodup.length_le_of_subset (l₂ := List.range 49) hn fun k hk => by
    obtain ⟨u, hu, rfl⟩ := List.mem_map.mp hk
    have h1 := h.mem u hu
    have := h.hi
    rw [List.mem_range]
    omega
  simpa using this
theorem web_nodup {m : Int} {W : List (Int × Int)} (h : IsWeb m W) : W.Nodup := h.asc.imp fun {a b} q e => by
  subst e
  rcases q with q | q <;> omega
/-- where the lists of a run are -/
structure RanA where
  dl : Addr
  lf : Addr
  st : Addr
  ld : Addr
  rs : List Addr
  ls : List Addr
structure RanN (H : Hp) (A : RanA) : Prop where
  dl : H A.dl = none
  lf : H A.lf = none
  st : H A.st = none
  ld : H A.ld = none
  rs : ∀ l ∈ A.rs, H l = none
  ls : ∀ l ∈ A.ls, H l = none
  n1 : A.dl ≠ A.lf
  n2 : A.dl ≠ A.st
  n3 : A.dl ≠ A.ld
  n4 : A.dl ∉ A.rs
  n5 : A.dl ∉ A.ls
  n6 : A.lf ≠ A.st
  n7 : A.lf ≠ A.ld
  n8 : A.lf ∉ A.rs
  n9 : A.lf ∉ A.ls
  n10 : A.st ≠ A.ld
  n11 : A.st ∉ A.rs
  n12 : A.st ∉ A.ls
  n13 : A.ld ∉ A.rs
  n14 : A.ld ∉ A.ls
  n15 : A.rs.Nodup
  n16 : A.ls.Nodup
  n17 : ∀ l ∈ A.rs, l ∉ A.ls
/-- lists of ints at these places -/
def Lists (H : Hp) (as : List Addr) (ns : List (List Int)) : Prop := as.length = ns.length ∧ ∀ (i : Nat) (a : Addr) (l : List Int), as[i]? = some a → ns[i]? = some l → H a = some (.lst (l.map V.int))
theorem Lists.mono {H H' : Hp} {as : List Addr} {ns : List (List Int)} (h : Lists H as ns) (k : ∀ a ∈ as, ∀ u, H a = some u → H' a = some u) : Lists H' as ns := ⟨h.1, fun i a l e1 e2 => k a (List.mem_of_getElem? e1) _ (h.2 i a l e1 e2)⟩
theorem Lists.set {H : Hp} {as : List Addr} {ns : List (List Int)} (h : Lists H as ns) (nd : as.Nodup) {x : Nat} {a : Addr} (ha : as[x]? = some a) (m : List Int) : Lists (upd H a (.lst (m.map V.int))) as (ns.set x m) := by
  refine ⟨by rw [List.length_set]; exact h.1, fun i b l e1 e2 => ?_⟩
  by_cases c : i = x
  · subst c
    rw [ha] at e1
    cases e1
    rw [List.getElem?_set_self (by rw [← h.1]; exact (List.getElem?_eq_some_iff.mp ha).1)] at e2
    cases e2
    exact upd_same
  · rw [List.getElem?_set_ne (fun z => c z.symm)] at e2
    have ne : b ≠ a := fun z => by
      subst z
      exact c (nd_ix nd e1 ha)
    rw [upd_ne ne]
    exact h.2 i b l e1 e2
/-- what they hold -/
structure RanS (W : List (Int × Int)) (A : RanA) (H : Hp) (ds : List (List Int)) (left : List Int) (lt : List (List Int)) (sv : List V) : Prop where
  dl : H A.dl = some (.lst (A.rs.map V.ref))
  lf : H A.lf = some (.lst (left.map V.int))
  st : H A.st = some (.lst sv)
  ld : H A.ld = some (.dT (dtOf W A.ls))
  rs : Lists H A.rs ds
  ls : Lists H A.ls lt
section
variable {W : List (Int × Int)} {A : RanA} {H H1 H2 : Hp} {ds lt : List (List Int)} {left : List Int} {sv : List V} {hd c : Addr}
theorem RanS.g (r : RanS W A H1 ds left lt sv) (N : RanN H A) (hh : Hand H hd c) (g : G (some (hd, c)) H1 H2) : RanS W A H2 ds left lt sv := by
  have off : ∀ a, H a = none → ∀ u, H1 a = some u → H2 a = some u := fun a n u e => g.keep a u (off_new hh n) e
  exact ⟨off _ N.dl _ r.dl, off _ N.lf _ r.lf, off _ N.st _ r.st, off _ N.ld _ r.ld, r.rs.mono fun a m => off a (N.rs a m), r.ls.mono fun a m => off a (N.ls a m)⟩
theorem ne_mem {a b : Addr} {l : List Addr} (h : a ∉ l) (m : b ∈ l) : b ≠ a := fun e => h (e ▸ m)
theorem RanS.left' (r : RanS W A H1 ds left lt sv) (N : RanN H A) (left' : List Int) : RanS W A (upd H1 A.lf (.lst (left'.map V.int))) ds left' lt sv :=
  ⟨by rw [upd_ne N.n1]; exact r.dl, upd_same, by rw [upd_ne N.n6.symm]; exact r.st, by rw [upd_ne N.n7.symm]; exact r.ld, r.rs.mono fun a m u e => by rw [upd_ne (ne_mem N.n8 m)]; exact e, r.ls.mono fun a m u e => by rw [upd_ne (ne_mem N.n9 m)]; exact e⟩
theorem RanS.step' (r : RanS W A H1 ds left lt sv) (N : RanN H A) (sv' : List V) : RanS W A (upd H1 A.st (.lst sv')) ds left lt sv' :=
  ⟨by rw [upd_ne N.n2]; exact r.dl, by rw [upd_ne N.n6]; exact r.lf, upd_same, by rw [upd_ne N.n10.symm]; exact r.ld, r.rs.mono fun a m u e => by rw [upd_ne (ne_mem N.n11 m)]; exact e, r.ls.mono fun a m u e => by rw [upd_ne (ne_mem N.n12 m)]; exact e⟩
theorem RanS.dia' (r : RanS W A H1 ds left lt sv) (N : RanN H A) {x : Nat} {l : Addr} (hl : A.rs[x]? = some l) (d : List Int) : RanS W A (upd H1 l (.lst (d.map V.int))) (ds.set x d) left lt sv := by
  have m := List.mem_of_getElem? hl
  exact ⟨by rw [upd_ne (ne_mem N.n4 m).symm]; exact r.dl, by rw [upd_ne (ne_mem N.n8 m).symm]; exact r.lf, by rw [upd_ne (ne_mem N.n11 m).symm]; exact r.st, by rw [upd_ne (ne_mem N.n13 m).symm]; exact r.ld, r.rs.set N.n15 hl d, r.ls.mono fun a ma u e => by rw [upd_ne (fun (z : a = l) => N.n17 l m (z ▸ ma))]; exact e⟩
theorem RanS.let' (r : RanS W A H1 ds left lt sv) (N : RanN H A) {j : Nat} {l : Addr} (hl : A.ls[j]? = some l) (d : List Int) : RanS W A (upd H1 l (.lst (d.map V.int))) ds left (lt.set j d) sv := by
  have m := List.mem_of_getElem? hl
  exact ⟨by rw [upd_ne (ne_mem N.n5 m).symm]; exact r.dl, by rw [upd_ne (ne_mem N.n9 m).symm]; exact r.lf, by rw [upd_ne (ne_mem N.n12 m).symm]; exact r.st, by rw [upd_ne (ne_mem N.n14 m).symm]; exact r.ld, r.rs.mono fun a ma u e => by rw [upd_ne (fun (z : a = l) => N.n17 a ma (z ▸ m))]; exact e, r.ls.set N.n16 hl d⟩
end
/-- what is true behind i turns -/
structure RanT (n : Nat) (ws : List Int) (most : Int) (i b : Nat) (ds : List (List Int)) (left : List Int) (lt : List (List Int)) (sv : List V) (more : Int) : Prop where
  ld : ds.length = n
  nd : ∀ d ∈ ds, d.Nodup
  rng : ∀ d ∈ ds, ∀ p ∈ d, 0 ≤ p ∧ p < (ws.length : Int)
  lr : ∀ p ∈ left, 0 ≤ p ∧ p < (ws.length : Int)
  tr : ∀ l ∈ lt, ∀ p ∈ l, 0 ≤ p ∧ p < (ws.length : Int)
  cnt : (i : Int) = ((ws.length : Int) - (left.length : Int)) + more
  ll : left.length ≤ ws.length
  m0 : 0 ≤ more
  mm : more ≤ most
  sl : sv.length ≤ i
  tl : ∀ l ∈ lt, l.length ≤ b
def Own (ws : List Int) (ds : List (List Int)) (left : List Int) (o : Option (Int × Int)) : Prop := ∀ (p : Nat) (w : Int) (d : List Int), ws[p]? = some w → ds[w.toNat]? = some d → (p : Int) ∈ d ∨ (p : Int) ∈ left ∨ o = some ((p : Int), w)
theorem mem_erase {left : List Int} {r : Nat} (h : r < left.length) {p : Int} (m : p ∈ left) : p = left[r] ∨ p ∈ left.eraseIdx r := by
  obtain ⟨i, hi⟩ := List.getElem?_of_mem m
  by_cases c : i = r
  · subst c
    exact .inl (by rw [List.getElem?_eq_getElem h] at hi; exact (Option.some.inj hi).symm)
  · exact .inr (List.mem_eraseIdx_iff_getElem?.mpr ⟨i, c, hi⟩)
theorem Own.put {ws : List Int} {ds : List (List Int)} {left : List Int} (h : Own ws ds left none) {r : Nat} (hr : r < left.length) {x : Int} (hx : ws[left[r].toNat]? = some x) (h0 : 0 ≤ left[r]) : Own ws ds (left.eraseIdx r) (some (left[r], x)) := fun p w d e1 e2 => by
  rcases h p w d e1 e2 with q | q | q
  · exact .inl q
  · rcases mem_erase hr q with z | z
    · refine .inr (.inr ?_)
      have e : left[r].toNat = p := by omega
      rw [e, e1] at hx
      rw [← z, Option.some.inj hx]
    · exact .inr (.inl z)
  · cases q
theorem Own.wk {ws : List Int} {ds : List (List Int)} {left : List Int} (h : Own ws ds left none) (o : Option (Int × Int)) : Own ws ds left o := fun p w d e1 e2 => by
  rcases h p w d e1 e2 with q | q | q
  · exact .inl q
  · exact .inr (.inl q)
  · cases q
theorem Own.had {ws : List Int} {ds : List (List Int)} {left : List Int} {put x : Int} (h : Own ws ds left (some (put, x))) {d : List Int} (hd : ds[x.toNat]? = some d) (hp : put ∈ d) : Own ws ds left none := fun p w d' e1 e2 => by
  rcases h p w d' e1 e2 with q | q | q
  · exact .inl q
  · exact .inr (.inl q)
  · cases q
    rw [hd] at e2
    cases e2
    exact .inl hp
theorem Own.app {ws : List Int} {ds : List (List Int)} {left : List Int} {put x : Int} (h : Own ws ds left (some (put, x))) {d : List Int} (hd : ds[x.toNat]? = some d) : Own ws (ds.set x.toNat (d ++ [put])) left none := fun p w d' e1 e2 => by
  rw [List.getElem?_set] at e2
  split at e2
  · rename_i c
    split at e2
    · cases e2
      rcases h p w d e1 (by rw [← c]; exact hd) with q | q | q
      · exact .inl (List.mem_append_left _ q)
      · exact .inr (.inl q)
      · cases q
        exact .inl (List.mem_append_right _ (List.mem_singleton.mpr rfl))
    · cases e2
  · rename_i c
    rcases h p w d' e1 e2 with q | q | q
    · exact .inl q
    · exact .inr (.inl q)
    · cases q
      exact absurd rfl c
theorem mem_set_list {α : Type} {l : List α} {i : Nat} {a b : α} (h : b ∈ l.set i a) : b ∈ l ∨ b = a := List.mem_or_eq_of_mem_set h
theorem ran_rec {n : Nat} {ws : List Int} {most : Int} {i b : Nat} {ds lt : List (List Int)} {sv : List V} {more : Int} (t : RanT n ws most i b ds [] lt sv more) (o : Own ws ds [] none) (n1 : 1 ≤ n) (n7 : n ≤ 7) (p30 : ws.length ≤ 30) (hws : ∀ w ∈ ws, 0 ≤ w ∧ w < (n : Int)) : IsRec ws ds :=
  ⟨by rw [t.ld]; exact n1, by rw [t.ld]; exact n7, p30, fun w hw => by rw [t.ld]; exact hws w hw, t.nd, t.rng, fun p w d e1 e2 => by
    rcases o p w d e1 e2 with q | q | q
    · exact q
    · cases q
    · cases q⟩
/-- wires out of all wires, as data -/
theorem ready_dp {K : PySem.W.Frag} {H : Hp} {bs : List Addr} {W : List (Int × Int)} (tup : TupAll H bs W) : ∀ {xs : List V}, (∀ v ∈ xs, ∃ (j : Nat) (b : Addr), v = .ref b ∧ bs[j]? = some b) → ∃ us : List (Int × Int), us.length = xs.length ∧ DpAll K H xs (us.map dP)
  | [], _ => ⟨[], rfl, .nil⟩
  | v :: xs, h => by
    obtain ⟨us, e, r⟩ := ready_dp (K := K) tup fun v hv => h v (List.mem_cons_of_mem _ hv)
    obtain ⟨j, b, rfl, hb⟩ := h v List.mem_cons_self
    have lj := (List.getElem?_eq_some_iff.mp hb).1
    have lw : j < W.length := by rw [← tup.1]; exact lj
    have hw : W[j]? = some W[j] := List.getElem?_eq_getElem lw
    exact ⟨W[j] :: us, by simp [e], .cons (dp_ofP (SqT.of (tup.2 j b _ hb hw))) r⟩
theorem sh_pairsL (us : List (Int × Int)) : SeqAt.shaped (.list (us.map dP)) = true := sh_of (by
    rw [PyData.canLay0]
    exact canAll fun d h => by
      obtain ⟨n, _, rfl⟩ := List.mem_map.mp h
      exact can_dP n) (by
    rw [PyData.depth]
    have := depAll (n := 1) (ds := us.map dP) fun d h => by
      obtain ⟨n, _, rfl⟩ := List.mem_map.mp h
      exact dep_dP n
    omega)
theorem not_in {H : Hp} {l : Addr} {as : List Addr} {u : HO} (h : H l = none) (k : ∀ x ∈ as, H x = some u) : l ∉ as := fun m => by rw [k l m] at h; cases h
theorem w_ifM {t : TT} {ts tu : TS} {D : Ends} {σ : L2.St} {H : Hp} (M : Bool → Hp → Prop) (h1 : ∀ N : Bool → Hp → Prop, (∀ b H', M b H' → N b H') → t σ H N) (h2 : ∀ b H', M b H' → if b = true then ts D σ H' else tu D σ H') : tIfS t ts tu D σ H := h1 _ h2
theorem pop_ix {ls : List Int} {r : Int} (r0 : 0 ≤ r) (rl : r.toNat < ls.length) : PySem.seqIndex? r (ls.map V.int).length = some r.toNat := by
  unfold PySem.seqIndex?
  rw [List.length_map]
  have n0 : ¬ r < 0 := by omega
  simp [n0]
  omega
theorem w_dget {td ty : TE} {σ : L2.St} {H : Hp} {Q : VK} (q : td σ H fun x H1 => ty σ H1 fun y H2 => ∃ a v, x = .ref a ∧ DGet H2 a y (some v) ∧ Q v H2) : tDGet td ty σ H Q := q
theorem i_dget {F : V → Prop} {H : Hp} {ld b l : Addr} {W : List (Int × Int)} {ls : List Addr} {j : Nat} {u : Int × Int} (nd : W.Nodup) (h : H ld = some (.dT (dtOf W ls))) (hb : H b = some (.tup [.int u.1, .int u.2])) (hu : W[j]? = some u) (hl : ls[j]? = some l) (q : F (.ref l)) : ∃ (a : Addr) (v : V), V.ref ld = .ref a ∧ DGet H a (.ref b) (some v) ∧ F v :=
  ⟨ld, .ref l, rfl, by rw [← valT nd hu hl]; exact DGet.t h hb, q⟩
theorem eqv_none (us : List (Int × Int)) : PyData.eqv (.list (us.map dP)) (.list []) = decide (us.length = 0) := by
  cases us with
  | nil => rfl
  | cons u us => rfl


end
end Mine
/-! ## K11b -/


namespace Mine
section
variable {P : Program} {w : World} {K : PySem.W.Frag} {mg : Str → Option Value} {base : Heap} {a : Ads}

/-! ### puts and letters led by drawn steps -/
theorem nodup_snoc {α : Type} {l : List α} {a : α} (h : l.Nodup) (n : a ∉ l) : (l ++ [a]).Nodup := List.nodup_append.mpr ⟨h, by simp, fun x hx y hy e => by
  have ey : y = a := by simpa using hy
  subst ey; subst e
  exact n hx⟩
theorem ab_ints {C hd : Addr} {H : Hp} : ∀ d : List Int, AbAll C hd H (d.map V.int) (d.map Tg.int)
  | [] => .nil
  | i :: d => .cons (.int i) (ab_ints d)
theorem ab_frz {C hd f : Addr} {H : Hp} {d : List Int} (h : FrzT H f (d.map V.int)) : Ab C hd H (.ref f) (tgI d) := by
  obtain ⟨ob, h, _⟩ := h
  exact .tup (.inr ⟨ob, h⟩) (ab_ints d)
theorem ab_dias {C hd : Addr} {H : Hp} : ∀ {fs : List Addr} {ds : List (List Int)}, fs.length = ds.length → (∀ (j : Nat) (f : Addr) (d : List Int), fs[j]? = some f → ds[j]? = some d → FrzT H f (d.map V.int)) → AbAll C hd H (fs.map V.ref) (ds.map tgI)
  | [], [], _, _ => .nil
  | f :: fs, d :: ds, l, h => .cons (ab_frz (h 0 f d rfl rfl)) (ab_dias (by simpa using l) fun j f d e1 e2 => h (j + 1) f d (by simpa using e1) (by simpa using e2))
  | [], _ :: _, l, _ => by simp at l
  | _ :: _, [], l, _ => by simp at l
def sp__law_ran (K : PySem.W.Frag) (C : Addr) : Sp := fun vs H Q _ => ∃ (hd c : Addr) (n : Int) (wa : Addr) (bs : List Addr) (W : List (Int × Int)) (vp : Addr) (ws : List Int) (most : Int), vs = [.ref hd, .int n, .ref wa, .ref vp, .int most] ∧ Hand H hd c ∧ SqT K H wa (bs.map V.ref) ∧ TupAll H bs W ∧ IsWeb n W ∧ SqT K H vp (ws.map V.int) ∧ ws.length ≤ 30 ∧ (∀ w ∈ ws, 0 ≤ w ∧ w < n) ∧ 0 ≤ most ∧ most ≤ 40 ∧
  ∀ (p dt st : Addr) (ds : List (List Int)) H', G (some (hd, c)) H H' → Hand H' hd c → H' p = some (.tup [.ref dt, .ref st]) → Ab C hd H' (.ref dt) (tgDD ds) → ds.length = n.toNat → IsRec ws ds → Q (.ref p) H'
theorem ok__law_ran (T : Txt K mg a) : FnOk P w K mg base CX0 2 a.f__law_ran a.d__law_ran P__law_ran (sp__law_ran K a.c_Record) := by
  refine T.F__law_ran.ok sc__law_ran (fun vs H Q E h => by obtain ⟨hd, c, n, wa, bs, W, vp, ws, most, rfl, _⟩ := h; rfl) (fun cdv A outer s H vs Q E hr h => ?_)
  obtain ⟨hd, c, m, wa, bs, W, vp, ws, most, rfl, hh, hwa, tup, web, hv, p30, hws, mo0, mo40, k⟩ := h
  have G__law_draw : FnOk P w K mg base CX0 1 a.f__law_draw a.d__law_draw P__law_draw sp__law_draw := ok__law_draw T
  have m1 := web.lo
  have m7 := web.hi
  have l49 := isweb_len49 web
  obtain ⟨n, rfl⟩ : ∃ n : Nat, m = (n : Int) := ⟨m.toNat, by omega⟩
  rw [Int.toNat_natCast] at k
  have hhp : ∀ p, some (hd, c) = some p → Hand H p.1 p.2 := fun p e => by cases e; exact hh
  have lb := tup.1
  refine ⟨_, (pss_cons (ps_setLc (i := 5) (own := [("_law_machine", 16)]) (g := (gName 16)) (tt := tYes)  rfl sc__law_ran.nd rfl rfl (sw_true rfl rfl rfl (by decide +kernel)) (pi_range1 rfl T.n_range (pa_cons (pv 1) pa_nil)) (blkOk_by (N := N__law_ran) (sc := defScope s__law_ran) (by decide +kernel)) (fun _ _ _ _ _ => (pg_name (i := 16) sc__law_ran.nd rfl (by first | exact Or.inl rfl | exact Or.inr rfl))) (fun _ _ _ _ _ => pts_nil) (fun _ _ _ _ _ => (pe_lstN pa_nil)))
  (pss_cons (ps_set (i := 7) sc__law_ran.nd rfl (Or.inr rfl) (pe_callTy (call_dictPT rfl hr.units) (by rfl) T.n_dict (by decide +kernel) (pa_cons (pe_lc (own := [("_law_wire", 6)]) (g := (gName 6)) (tt := tYes) rfl sc__law_ran.nd (pi_tup (pv 2)) (blkOk_by (N := N__law_ran) (sc := defScope s__law_ran) (by decide +kernel)) (fun _ _ _ _ _ => (pg_name (i := 6) sc__law_ran.nd rfl (by first | exact Or.inl rfl | exact Or.inr rfl))) (fun _ _ _ _ _ => pts_nil) (fun _ _ _ _ _ => (pe_tupN (pa_cons (pv 6) (pa_cons (pe_lstN pa_nil) pa_nil))))) pa_nil)))
  (pss_cons (ps_set (i := 8) sc__law_ran.nd rfl (Or.inl rfl) (pe_listRgN rfl (by rfl) T.n_list (prg_1 (by rfl) T.n_range (pe_callB call_len_seq (by rfl) T.n_len (by decide +kernel) (pa_cons (pv 3) pa_nil))) (mo_rg1 mo_len)))
  (pss_cons (ps_set (i := 9) sc__law_ran.nd rfl (Or.inl rfl) (pe_lstN pa_nil))
  (pss_cons (ps_set (i := 10) sc__law_ran.nd rfl (Or.inl rfl) pe_int)
  (pss_cons (ps_for PassesOwn.never rfl (pi_range1 rfl T.n_range (pa_cons (pe_op op_add (pe_callB call_len_seq (by rfl) T.n_len (by decide +kernel) (pa_cons (pv 3) pa_nil)) (pv 4)) pa_nil)) (pg_name (i := 11) sc__law_ran.nd rfl (Or.inl rfl))
    (pss_cons (ps_setLc (i := 12) (own := [("_law_wire", 6)]) (g := (gName 6))  rfl sc__law_ran.nd rfl rfl (sw_true rfl rfl rfl (by decide +kernel)) (pi_tup (pv 2)) (blkOk_by (N := N__law_ran) (sc := defScope s__law_ran) (by decide +kernel)) (fun _ _ _ _ _ => (pg_name (i := 6) sc__law_ran.nd rfl (by first | exact Or.inl rfl | exact Or.inr rfl))) (fun _ _ _ _ _ => (pts_one (pt_cmpR op_gt (pe_callB (k_call_len_seq K) (by rfl) T.n_len (by decide +kernel) (pa_cons (pe_dget (hu_of hr) (pv 7) (pv 6) (by first | exact fun _ _ => rfl | rfl | decide)) pa_nil)) pe_int (nomark _)))) (fun _ _ _ _ _ => (pv 6)))
  (pss_cons (ps_if (L2.PW.pt (pw_and (pt_cmpR op_gt (pe_callB call_len_seq (by rfl) T.n_len (by decide +kernel) (pa_cons (pv 8) pa_nil)) pe_int (nomark _)) (pw_and1 (L2.PW.pt (pw_or (pt_cmpR (op_eqD hr.units) (pv 12) (pe_lstN pa_nil) (nomark _)) (pw_or (pt_cmpR op_eq (pv 10) (pv 4) (nomark _)) (pw_or1 (pt_cmpR op_eq (pe_call (G__law_draw) (hr.mono (by omega)) rfl T.m__law_draw T.F__law_draw.kp T.b__law_draw .nil pass0 (pa_cons (pv 0) (pa_cons pe_int pa_nil))) pe_int (nomark _)))))))))
    (pss_cons (ps_set (i := 13) sc__law_ran.nd rfl (Or.inl rfl) (pe_bm PySem.F.plainAttrs_list PySem.F.slot_list_pop PySem.F.type_list_pop mt_popAt (pv 8) (pa_cons (pe_call (G__law_draw) (hr.mono (by omega)) rfl T.m__law_draw T.F__law_draw.kp T.b__law_draw .nil pass0 (pa_cons (pv 0) (pa_cons (pe_callB call_len_seq (by rfl) T.n_len (by decide +kernel) (pa_cons (pv 8) pa_nil)) pa_nil))) pa_nil)))
  (pss_cons (ps_set (i := 14) sc__law_ran.nd rfl (Or.inl rfl) (pe_ix ix_tup (pv 3) (pv 13) (fun _ _ => rfl)))
  (pss_one (ps_expr (pe_bm PySem.F.plainAttrs_list PySem.F.slot_list_append PySem.F.type_list_append mt_append (pv 9) (pa_cons (pe_tupN (pa_cons pe_str (pa_cons (pv 13) pa_nil))) pa_nil))))))
    (pss_one (ps_if (L2.PW.pt (pw_and (pt_cmpR (op_neD hr.units) (pv 12) (pe_lstN pa_nil) (nomark _)) (pw_and1 (pt_cmpR op_lt (pv 10) (pv 4) (nomark _)))))
    (pss_cons (ps_asg (pe_ix ix_list (pv 12) (pe_call (G__law_draw) (hr.mono (by omega)) rfl T.m__law_draw T.F__law_draw.kp T.b__law_draw .nil pass0 (pa_cons (pv 0) (pa_cons (pe_callB call_len_seq (by rfl) T.n_len (by decide +kernel) (pa_cons (pv 12) pa_nil)) pa_nil))) (fun _ _ => rfl)) (pg_tup rfl (pgs_cons (pg_name (i := 15) sc__law_ran.nd rfl (Or.inl rfl)) (pgs_cons (pg_name (i := 14) sc__law_ran.nd rfl (Or.inl rfl)) pgs_nil))))
  (pss_cons (ps_set (i := 13) sc__law_ran.nd rfl (Or.inl rfl) (pe_bm PySem.F.plainAttrs_list PySem.F.slot_list_pop PySem.F.type_list_pop mt_popAt (pe_dget (hu_of hr) (pv 7) (pe_tupN (pa_cons (pv 15) (pa_cons (pv 14) pa_nil))) (fun _ _ => rfl)) (pa_cons pe_int pa_nil)))
  (pss_cons (ps_expr (pe_bm PySem.F.plainAttrs_list PySem.F.slot_list_append PySem.F.type_list_append mt_append (pv 9) (pa_cons (pe_tupN (pa_cons pe_str (pa_cons (pv 15) (pa_cons (pv 14) pa_nil)))) pa_nil)))
  (pss_one (ps_set (i := 10) sc__law_ran.nd rfl (Or.inl rfl) (pe_op op_add (pv 10) pe_int))))))
    (pss_one ps_break))))
  (pss_one (ps_if (pt_cmpR op_notIn_seq (pv 13) (pe_ix ix_list (pv 5) (pv 14) (fun _ _ => rfl)) (by rfl))
    (pss_cons (ps_expr (pe_bm PySem.F.plainAttrs_list PySem.F.slot_list_append PySem.F.type_list_append mt_append (pe_ix ix_list (pv 5) (pv 14) (fun _ _ => rfl)) (pa_cons (pv 13) pa_nil)))
  (pss_one (ps_for PassesOwn.never rfl (pi_tup (pv 2)) (pg_name (i := 6) sc__law_ran.nd rfl (Or.inl rfl))
    (pss_one (ps_if (pt_cmpR op_eq (pe_ix ix_tup (pv 6) pe_int (fun _ _ => rfl)) (pv 14) (nomark _))
    (pss_one (ps_expr (pe_bm PySem.F.plainAttrs_list PySem.F.slot_list_append PySem.F.type_list_append mt_append (pe_dget (hu_of hr) (pv 7) (pv 6) (by first | exact fun _ _ => rfl | rfl | decide)) (pa_cons (pv 13) pa_nil))))
    pss_nil)))))
    pss_nil)))))
  (pss_one (ps_ret (pe_tupN (pa_cons (pe_callTy call_tupleN (by rfl) T.n_tuple (by decide +kernel) (pa_cons (pe_lc (own := [("_law_diary", 17)]) (g := (gName 17)) (tt := tYes) rfl sc__law_ran.nd (pi_list (pv 5)) (blkOk_by (N := N__law_ran) (sc := defScope s__law_ran) (by decide +kernel)) (fun _ _ _ _ _ => (pg_name (i := 17) sc__law_ran.nd rfl (by first | exact Or.inl rfl | exact Or.inr rfl))) (fun _ _ _ _ _ => pts_nil) (fun _ _ _ _ _ => (pe_callTy (k_tupleF K) (by rfl) T.n_tuple (by decide +kernel) (pa_cons (pv 17) pa_nil)))) pa_nil)) (pa_cons (pv 9) pa_nil))))))))))), ?_⟩
  walk_at "ws"
  refine i_rng1 (by omega) (by omega) ?_
  rw [Int.toNat_natCast]
  intro dl hdl
  refine lc_it walk_range (fun i H' => ∃ rs : List Addr, G none H H' ∧ H' dl = some (.lst (rs.map V.ref)) ∧ rs.length = i ∧ rs.Nodup ∧ dl ∉ rs ∧ ∀ l ∈ rs, H l = none ∧ H' l = some (.lst [])) ⟨[], (G.refl).mut hdl (fun _ e => nomatch e), upd_same, rfl, List.nodup_nil, (fun h => nomatch h), (fun _ h => nomatch h)⟩ (fun _ _ _ _ => trivial) ?_ ?_
  · rintro i _ _ H1 hi ⟨rs, g1, h1, lr, nd, ndl, hrs⟩ ⟨rfl, rfl⟩
    walk_at "ws"
    refine ⟨rfl, ?_⟩
    walk_at "ws"
    refine ⟨sz (by simp), fun l H2 hl g2 h2 => ?_⟩
    have nl : l ≠ dl := (ne_of_none h1 hl).symm
    refine ⟨rs.map V.ref, (g2 none).all _ _ h1, Nat.lt_of_le_of_lt (by rw [List.length_map]; omega : (rs.map V.ref).length ≤ 100000) (by decide), rs ++ [l], (g1.trans (g2 none)).mut hdl (fun _ e => nomatch e), by rw [upd_same, List.map_append]; rfl, by rw [List.length_append, lr]; rfl, ?_, ?_, ?_⟩
    · exact nodup_snoc nd fun ha => by
        have := (hrs _ ha).2
        rw [hl] at this; cases this
    · intro h
      rcases List.mem_append.mp h with z | z
      · exact ndl z
      · exact nl (by simpa using z : dl = l).symm
    · intro x hx
      rcases List.mem_append.mp hx with z | z
      · have q := hrs x z
        exact ⟨q.1, by rw [upd_ne (ne_mem ndl z)]; exact (g2 none).all _ _ q.2⟩
      · have e : x = l := by simpa using z
        subst e
        exact ⟨back_none g1 hl, by rw [upd_ne nl]; exact h2⟩
  rintro H1 ⟨rs, g1, h1, lr, nd, ndl, hrs⟩
  have hwa1 := sqT_t g1.tups hwa
  have tup1 := tup.g g1 (fun _ e => nomatch e)
  have hv1 := sqT_t g1.tups hv
  walk_at "ws"
  refine i_tup hwa1 ?_
  intro D hD
  refine lc_it (walk_tup (xs := bs.map V.ref)) (fun i H' => ∃ ts ls : List Addr, G none H1 H' ∧ H' D = some (.lst (ts.map V.ref)) ∧ ts.length = i ∧ ls.length = i ∧ ls.Nodup ∧ (∀ l ∈ ls, H1 l = none ∧ l ≠ D ∧ H' l = some (.lst [])) ∧ ∀ (j : Nat) (t b l : Addr), ts[j]? = some t → bs[j]? = some b → ls[j]? = some l → H' t = some (.tup [.ref b, .ref l])) ⟨[], [], (G.refl).mut hD (fun _ e => nomatch e), upd_same, rfl, rfl, List.nodup_nil, (fun _ h => nomatch h), (fun j t b l e => by simp at e)⟩ (fun i H' _ ⟨ts, ls, q, _⟩ => sqT_t q.tups hwa1) ?_ ?_
  · rintro i v _ H2 hi ⟨ts, ls, g2, h2, lt_, ll, ndls, hls, hts⟩ ⟨rfl, hv'⟩
    rw [List.length_map] at hi
    rw [List.getElem?_map] at hv'
    obtain ⟨b, hb, rfl⟩ := Option.map_eq_some_iff.mp hv'
    walk_at "ws"
    refine ⟨rfl, ?_⟩
    walk_at "ws"
    refine ⟨sz (by simp), fun l H3 hl g3 h3 => ?_⟩
    walk_at "ws"
    refine ⟨sz (by simp), fun t H4 ht g4 h4 => ?_⟩
    have g24 : G none H2 H4 := (g3 none).trans (g4 none)
    have h4D := g24.all _ _ h2
    have h4l := (g4 none).all _ _ h3
    have nl : l ≠ D := (ne_of_none h2 hl).symm
    have tD : t ≠ D := (ne_of_none ((g3 none).all _ _ h2) ht).symm
    refine ⟨ts.map V.ref, h4D, Nat.lt_of_le_of_lt (by rw [List.length_map]; omega : (ts.map V.ref).length ≤ 100000) (by decide), ts ++ [t], ls ++ [l], (g2.trans g24).mut hD (fun _ e => nomatch e), by rw [upd_same, List.map_append]; rfl, by rw [List.length_append, lt_]; rfl, by rw [List.length_append, ll]; rfl, ?_, ?_, ?_⟩
    · exact nodup_snoc ndls fun ha => by
        have := (hls _ ha).2.2
        rw [hl] at this; cases this
    · intro x hx
      rcases List.mem_append.mp hx with z | z
      · have q := hls x z
        exact ⟨q.1, q.2.1, by rw [upd_ne q.2.1]; exact g24.all _ _ q.2.2⟩
      · have e : x = l := by simpa using z
        subst e
        exact ⟨back_none g2 hl, nl, by rw [upd_ne nl]; exact h4l⟩
    · intro j t' b' l' e1 e2 e3
      by_cases cj : j < i
      · rw [List.getElem?_append_left (by omega)] at e1 e3
        have q := hts j t' b' l' e1 e2 e3
        rw [upd_ne (ne_of q h2 (by intro z; cases z))]
        exact g24.all _ _ q
      · have ej : j = i := by
          have := (List.getElem?_eq_some_iff.mp e1).1
          rw [List.length_append, lt_, List.length_singleton] at this
          omega
        subst ej
        rw [List.getElem?_append_right (by omega), lt_, Nat.sub_self] at e1
        rw [List.getElem?_append_right (by omega), ll, Nat.sub_self] at e3
        rw [hb] at e2
        cases e1; cases e2; cases e3
        rw [upd_ne tD]
        exact h4
  rintro H2 ⟨ts, ls, g2, h2, lt_, ll, ndls, hls, hts⟩
  rw [List.length_map] at lt_ ll
  have tup2 := tup1.g g2 (fun _ e => nomatch e)
  walk_at "ws"
  refine ⟨D, mkL W bs ts ls, rfl, by rw [mkL_at lb (by omega) (by omega)]; exact h2, fun q hq => ?_, ?_, fun ld H3 hld g3 h3 => ?_⟩
  · obtain ⟨j, u, b, t, l, e1, e2, e3, e4, rfl⟩ := mkL_mem hq
    exact ⟨hts j t b l e3 e2 e4, tup2.2 j b u e2 e1⟩
  · rw [mkL_key lb (by omega) (by omega)]
    exact List.pairwise_map.mpr ((web_nodup web).imp fun h e => h (keyOfP_inj e))
  rw [mkL_dt lb (by omega) (by omega)] at h3
  walk_at "ws"
  refine w_lstRg (w_rg1 ?_)
  walk_at "ws"
  have hv3 := sqT_t (g2.trans (g3 none)).tups hv1
  refine ⟨vp, _, rfl, .inr hv3, _, rfl, ?_⟩
  rw [List.length_map]
  refine ⟨RgOk.of_le (by decide) (by omega) (by decide) (by omega), fun lf H4 hlf g4 h4 => ?_⟩
  rw [rg_upto] at h4
  walk_at "ws"
  refine ⟨sz (by simp), fun st H5 hst g5 h5 => ?_⟩
  have g34 := g4 none
  have g45 := g5 none
  have g13 : G none H1 H3 := g2.trans (g3 none)
  have g35 := g34.trans g45
  have g25 := (g3 none).trans g35
  have g15 := g13.trans g35
  have g05 := g1.trans g15
  have h2dl := g2.all _ _ h1
  have h2rs : ∀ l ∈ rs, H2 l = some (.lst []) := fun l hl => g2.all _ _ (hrs l hl).2
  have h3dl := (g3 none).all _ _ h2dl
  have h3rs : ∀ l ∈ rs, H3 l = some (.lst []) := fun l hl => (g3 none).all _ _ (h2rs l hl)
  have h3ls : ∀ l ∈ ls, H3 l = some (.lst []) := fun l hl => (g3 none).all _ _ (hls l hl).2.2
  have N : RanN H ⟨dl, lf, st, ld, rs, ls⟩ := ⟨hdl, back_none (g1.trans g13) hlf, back_none ((g1.trans g13).trans g34) hst, back_none (g1.trans g2) hld, fun l hl => (hrs l hl).1, fun l hl => back_none g1 (hls l hl).1,
    ne_of_none h3dl hlf, ne_of_none (g34.all _ _ h3dl) hst, ne_of_none h2dl hld, ndl, (fun hl => ne_of_none h1 (hls _ hl).1 rfl),
    ne_of_none h4 hst, (ne_of_none h3 hlf).symm, not_in hlf h3rs, not_in hlf h3ls,
    (ne_of_none (g34.all _ _ h3) hst).symm, not_in hst (fun l hl => g34.all _ _ (h3rs l hl)), not_in hst (fun l hl => g34.all _ _ (h3ls l hl)),
    not_in hld h2rs, not_in hld (fun l hl => (hls l hl).2.2), nd, ndls, (fun l hl hl2 => ne_of_none (hrs l hl).2 (hls l hl2).1 rfl)⟩
  have nil_at : ∀ (as : List Addr), (∀ l ∈ as, H5 l = some (.lst [])) → Lists H5 as (as.map fun _ => []) := fun as h => ⟨by rw [List.length_map], fun i a l e1 e2 => by
    rw [List.getElem?_map, e1] at e2
    cases e2
    exact h a (List.mem_of_getElem? e1)⟩
  have S5 : RanS W ⟨dl, lf, st, ld, rs, ls⟩ H5 (rs.map fun _ => []) (upto ws.length) (ls.map fun _ => []) [] := ⟨g35.all _ _ h3dl, g45.all _ _ h4, h5, g35.all _ _ h3, nil_at rs fun l hl => g35.all _ _ (h3rs l hl), nil_at ls fun l hl => g35.all _ _ (h3ls l hl)⟩
  have T5 : RanT n ws most 0 0 (rs.map fun _ => []) (upto ws.length) (ls.map fun _ => []) [] 0 := by
    have lu : (upto ws.length).length = ws.length := by unfold upto; simp
    refine ⟨by rw [List.length_map]; exact lr, fun d hd' => ?_, fun d hd' p hp => ?_, fun p hp => ?_, fun l hl p hp => ?_, by rw [lu]; simp, by rw [lu]; exact Nat.le_refl _, Int.le_refl _, mo0, Nat.le_refl _, fun l hl => ?_⟩
    · obtain ⟨_, _, rfl⟩ := List.mem_map.mp hd'; exact List.nodup_nil
    · obtain ⟨_, _, rfl⟩ := List.mem_map.mp hd'; exact nomatch hp
    · unfold upto at hp
      obtain ⟨i, hi, rfl⟩ := List.mem_map.mp hp
      have := List.mem_range.mp hi
      omega
    · obtain ⟨_, _, rfl⟩ := List.mem_map.mp hl; exact nomatch hp
    · obtain ⟨_, _, rfl⟩ := List.mem_map.mp hl; exact Nat.le_refl _
  have O5 : Own ws (rs.map fun _ => []) (upto ws.length) none := fun p w d e1 e2 => .inr (.inl (by
    have := (List.getElem?_eq_some_iff.mp e1).1
    unfold upto
    exact List.mem_map.mpr ⟨p, List.mem_range.mpr this, rfl⟩))
  have g5' : G (some (hd, c)) H H5 := g05.up
  have llW : ls.length = W.length := by omega
  clear h3rs h3ls h2rs h2dl h3dl h5 h4 h3 hts hls h2 hrs h1 g25 g35 g45 g34 g5 g4 g3 hst hlf hld hwa1 tup1 hv1 tup2 hv3 g15 g13 g2 g1 ndls nd nil_at g05 ndl lt_ hD hdl
  walk_at "wn"
  dsimp only
  refine w_seq ?_
  walk_at "wn"
  dsimp only
  refine w_seqM (fun σ H' => ∃ (u6 : Option V) (more : Int) (u11 u12 u13 u14 u15 u16 u17 : Option V) (ds lt : List (List Int)) (sv : List V), σ = [some (.ref hd), some (.int (n : Int)), some (.ref wa), some (.ref vp), some (.int most), some (.ref dl), u6, some (.ref ld), some (.ref lf), some (.ref st), some (.int more), u11, u12, u13, u14, u15, u16, u17] ∧ G (some (hd, c)) H H' ∧ RanS W ⟨dl, lf, st, ld, rs, ls⟩ H' ds [] lt sv ∧ (∃ i b, RanT n ws most i b ds [] lt sv more) ∧ Own ws ds [] none) (fun N1 kN1 => ?_) ?_
  · walk_at "ws"
    have hv5 := sqT_t g5'.tups hv
    refine ⟨vp, _, rfl, .inr hv5, ?_⟩
    walk_at "ws"
    rw [List.length_map]
    refine i_rng1 (by omega) (by omega) ?_
    refine for_it walk_range (fun i σ H' => ∃ (u6 : Option V) (more : Int) (u11 u12 u13 u14 u15 u16 u17 : Option V) (ds : List (List Int)) (left : List Int) (lt : List (List Int)) (sv : List V), σ = [some (.ref hd), some (.int (n : Int)), some (.ref wa), some (.ref vp), some (.int most), some (.ref dl), u6, some (.ref ld), some (.ref lf), some (.ref st), some (.int more), u11, u12, u13, u14, u15, u16, u17] ∧ G (some (hd, c)) H H' ∧ RanS W ⟨dl, lf, st, ld, rs, ls⟩ H' ds left lt sv ∧ RanT n ws most i i ds left lt sv more ∧ Own ws ds left none) ⟨_, 0, _, _, _, _, _, _, _, _, _, _, _, rfl, g5', S5, T5, O5⟩ (fun _ _ _ _ _ => trivial) ?_ ?_
    · clear S5 T5 O5 g5' hv5
      rintro i _ σ _ H6 hi ⟨u6, more, u11, u12, u13, u14, u15, u16, u17, ds, left, lt, sv, rfl, g6, S6, T6, O6⟩ ⟨rfl, rfl⟩
      have hh6 : Hand H6 hd c := g6.hand (hd, c) rfl hh
      have hwa6 := sqT_t g6.tups hwa
      have hv6 := sqT_t g6.tups hv
      have tup6 := tup.g g6 hhp
      have lls : ls.length = lt.length := S6.ls.1
      walk_at "ws"
      refine i_tup hwa6 ?_
      intro R hR
      refine lc_it (walk_tup (xs := bs.map V.ref)) (fun i H' => ∃ xs : List V, G none H6 H' ∧ H' R = some (.lst xs) ∧ xs.length ≤ i ∧ ∀ v ∈ xs, ∃ (j : Nat) (b : Addr) (l : List Int), v = .ref b ∧ bs[j]? = some b ∧ lt[j]? = some l ∧ l ≠ []) ⟨[], (G.refl).mut hR (fun _ e => nomatch e), upd_same, Nat.le_refl _, (fun _ h => nomatch h)⟩ (fun i H' _ ⟨_, q, _⟩ => sqT_t q.tups hwa6) ?_ ?_
      · rintro j v _ H7 hj ⟨xs, g7, h7, lx, hxs⟩ ⟨rfl, hv'⟩
        rw [List.length_map] at hj
        rw [List.getElem?_map] at hv'
        obtain ⟨b, hb, rfl⟩ := Option.map_eq_some_iff.mp hv'
        obtain ⟨l, hl⟩ : ∃ l, ls[j]? = some l := ⟨_, List.getElem?_eq_getElem (by omega)⟩
        obtain ⟨q, hq⟩ : ∃ q, lt[j]? = some q := ⟨_, List.getElem?_eq_getElem (by omega)⟩
        obtain ⟨u, hu⟩ : ∃ u, W[j]? = some u := ⟨_, List.getElem?_eq_getElem (by omega)⟩
        walk_at "ws"
        refine ⟨rfl, ?_⟩
        walk_at "ws"
        refine w_dget ?_
        walk_at "ws"
        refine i_dget (web_nodup web) (g7.all _ _ S6.ld) (g7.all _ _ (tup6.2 j b u hb hu)) hu hl ?_
        refine ⟨l, _, rfl, .inl (SqL.of (g7.all _ _ (S6.ls.2 j l q hl hq))), ?_⟩
        walk_at "ws"
        rw [List.length_map]
        refine w_ite (fun e => ?_) (fun e => ?_)
        · walk_at "ws"
          have e' := of_decide_eq_true e
          refine ⟨xs, h7, Nat.lt_of_le_of_lt (by omega : xs.length ≤ 100000) (by decide), xs ++ [.ref b], g7.mut hR (fun _ e => nomatch e), upd_same, by rw [List.length_append, List.length_singleton]; omega, fun v hv => ?_⟩
          rcases List.mem_append.mp hv with z | z
          · exact hxs v z
          · exact ⟨j, b, q, by simpa using z, hb, hq, fun z => by rw [z] at e'; simp at e'⟩
        · exact ⟨xs, g7, h7, by omega, hxs⟩
      rintro H7 ⟨xs, g7, h7, lx, hxs⟩
      rw [List.length_map] at lx
      have S7 := S6.g N hh g7.up
      have g67 : G (some (hd, c)) H6 H7 := g7.up
      have offR : Off (some (hd, c)) R := off_new hh6 hR
      have hh7 : Hand H7 hd c := g67.hand (hd, c) rfl hh6
      have tup7 := tup6.g g67 (fun p e => by cases e; exact hh6)
      have hv7 := sqT_t g67.tups hv6
      have TT := T6
      have ci := T6.cnt
      have cl := T6.ll
      have cm := T6.mm
      have c0 := T6.m0
      walk_at "wn"
      dsimp only
      refine w_seqM (fun σ H' => ∃ (u6 : Option V) (more put x : Int) (u11 u12 u15 u16 u17 : Option V) (ds : List (List Int)) (left : List Int) (lt : List (List Int)) (sv : List V), σ = [some (.ref hd), some (.int (n : Int)), some (.ref wa), some (.ref vp), some (.int most), some (.ref dl), u6, some (.ref ld), some (.ref lf), some (.ref st), some (.int more), u11, u12, some (.int put), some (.int x), u15, u16, u17] ∧ G (some (hd, c)) H H' ∧ RanS W ⟨dl, lf, st, ld, rs, ls⟩ H' ds left lt sv ∧ RanT n ws most (i + 1) i ds left lt sv more ∧ Own ws ds left (some (put, x)) ∧ (0 ≤ put ∧ put < (ws.length : Int)) ∧ (0 ≤ x ∧ x < (n : Int))) (fun N2 kN2 => ?_) ?_
      · refine w_ifM (fun b H' => G (some (hd, c)) H7 H' ∧ (b = true → 0 < left.length) ∧ (b = false → left ≠ [] → xs ≠ [] ∧ more < most)) (fun N3 kN3 => ?_) ?_
        · walk_at "ws"
          refine ⟨lf, _, rfl, .inl (SqL.of S7.lf), ?_⟩
          walk_at "ws"
          rw [List.length_map]
          refine w_ite (fun e => ?_) (fun e => ?_)
          · have e0 : 0 < left.length := by have := of_decide_eq_true e; omega
            walk_at "ws"
            refine ⟨sz (by simp), fun z H8 hz g8 h8 => ?_⟩
            obtain ⟨us, lu, hus⟩ := ready_dp (K := K) (tup7.g (g8 none) (fun _ e => nomatch e)) (xs := xs) fun v hv => by
              obtain ⟨j, b, _, e1, e2, _⟩ := hxs v hv
              exact ⟨j, b, e1, e2⟩
            refine ⟨.list (us.map dP), .list [], .lst (SqL.of ((g8 none).all _ _ h7)) hus, .lst (SqL.of h8) .nil, sh_pairsL us, sh_pairsL [], ?_⟩
            rw [eqv_none]
            walk_at "ws"
            refine w_ite (fun e => ?_) (fun e => ?_)
            · walk_at "ws"
              exact kN3 _ _ ⟨g8 _, fun _ => e0, fun z => nomatch z⟩
            · have nx : xs ≠ [] := fun z => by rw [z] at lu; rw [lu] at e; simp at e
              walk_at "ws"
              refine w_ite (fun e => ?_) (fun e => ?_)
              · walk_at "ws"
                exact kN3 _ _ ⟨g8 _, fun _ => e0, fun z => nomatch z⟩
              · have nm : ¬ more = most := of_decide_eq_false e
                walk_at "ws"
                refine ⟨hd, c, 3, rfl, (g8 (some (hd, c))).hand _ rfl hh7, by decide, by decide, fun r H9 r0 r1 g9 hh9 => ?_⟩
                walk_at "ws"
                exact kN3 _ _ ⟨(g8 _).trans g9, fun _ => e0, fun _ _ => ⟨nx, by omega⟩⟩
          · walk_at "ws"
            refine kN3 _ _ ⟨G.refl, (fun z => nomatch z), fun _ n0 => absurd (List.eq_nil_of_length_eq_zero ?_) n0⟩
            have := of_decide_eq_false e
            omega
        · rintro b H8 ⟨g78, kt, kf⟩
          have g08 := (g6.trans g67).trans g78
          have S8 := S7.g N hh g78
          have hh8 : Hand H8 hd c := g78.hand (hd, c) rfl hh7
          have h8R := g78.keep R _ offR h7
          refine w_ite (fun e => ?_) (fun e => ?_)
          · have ln := kt e
            walk_at "ws"
            refine i_BM S8.lf ?_
            walk_at "ws"
            refine ⟨lf, _, rfl, .inl (SqL.of S8.lf), ?_⟩
            walk_at "ws"
            rw [List.length_map]
            refine ⟨hd, c, (left.length : Int), rfl, hh8, by omega, by omega, fun r H9 r0 r1 g9 hh9 => ?_⟩
            have S9 := S8.g N hh g9
            have rl : r.toNat < left.length := by omega
            have pr := T6.lr _ (List.getElem_mem rl)
            have pl : left[r.toNat].toNat < ws.length := by omega
            obtain ⟨x, hx⟩ : ∃ x, ws[left[r.toNat].toNat]? = some x := ⟨_, List.getElem?_eq_getElem pl⟩
            have xr := hws x (List.mem_of_getElem? hx)
            walk_at "ws"
            refine ⟨lf, left.map V.int, r, r.toNat, .int left[r.toNat], rfl, rfl, S9.lf, by omega, by omega, pop_ix r0 rl, by rw [List.getElem?_map, List.getElem?_eq_getElem rl]; rfl, ?_⟩
            rw [erase_ints]
            have SA := S9.left' N (left.eraseIdx r.toNat)
            have gA := (g08.trans g9).mut (l := lf) (u := .lst ((left.eraseIdx r.toNat).map V.int)) N.lf hhp
            walk_at "ws"
            refine r_ixT (sqT_t gA.tups hv) (v := .int x) (at_of (j := left[r.toNat].toNat) (by omega) (by rw [List.getElem?_map, hx]; rfl)) ?_
            walk_at "ws"
            refine i_BM SA.st ?_
            walk_at "ws"
            refine ⟨sz (by simp), fun t HB ht gB hB => ?_⟩
            have SB := SA.g N hh (gB _)
            have sl := T6.sl
            walk_at "ws"
            refine r_app SB.st (by omega) ?_
            walk_at "ws"
            refine kN2 _ _ ?_
            refine ⟨_, more, _, x, _, _, _, _, _, ds, left.eraseIdx r.toNat, lt, _, rfl, (gA.trans (gB _)).mut N.st hhp, SB.step' N _, ?_, O6.put rl hx pr.1, pr, xr⟩
            have le : (left.eraseIdx r.toNat).length = left.length - 1 := List.length_eraseIdx_of_lt rl
            exact ⟨T6.ld, T6.nd, T6.rng, fun p hp => T6.lr p (List.mem_of_mem_eraseIdx hp), T6.tr, by rw [le]; omega, by rw [le]; omega, T6.m0, T6.mm, by rw [List.length_append, List.length_singleton]; omega, T6.tl⟩
          · have hf := kf e
            refine w_ifM (fun b H' => G (some (hd, c)) H8 H' ∧ (b = true → xs ≠ [] ∧ more < most) ∧ (b = false → ¬ (xs ≠ [] ∧ more < most))) (fun N4 kN4 => ?_) ?_
            · walk_at "ws"
              refine ⟨sz (by simp), fun z H9 hz g9 h9 => ?_⟩
              obtain ⟨us, lu, hus⟩ := ready_dp (K := K) ((tup7.g g78 (fun p e => by cases e; exact hh7)).g (g9 none) (fun _ e => nomatch e)) (xs := xs) fun v hv => by
                obtain ⟨j, b, _, e1, e2, _⟩ := hxs v hv
                exact ⟨j, b, e1, e2⟩
              refine ⟨.list (us.map dP), .list [], .lst (SqL.of ((g9 none).all _ _ h8R)) hus, .lst (SqL.of h9) .nil, sh_pairsL us, sh_pairsL [], ?_⟩
              rw [eqv_none]
              walk_at "ws"
              refine w_ite (fun e => ?_) (fun e => ?_)
              · have nx : xs ≠ [] := fun z => by rw [z] at lu; rw [lu] at e; simp at e
                walk_at "ws"
                by_cases cc : more < most
                · rw [decide_eq_true cc]
                  exact kN4 _ _ ⟨g9 _, fun _ => ⟨nx, cc⟩, fun z => nomatch z⟩
                · rw [decide_eq_false cc]
                  exact kN4 _ _ ⟨g9 _, (fun z => nomatch z), fun _ z => cc z.2⟩
              · have nx : xs = [] := by
                  have : us.length = 0 := by simpa using e
                  exact List.eq_nil_of_length_eq_zero (by omega)
                walk_at "ws"
                exact kN4 _ _ ⟨g9 _, (fun z => nomatch z), fun _ z => z.1 nx⟩
            · rintro b2 H9 ⟨g89, kt2, kf2⟩
              have g09 := g08.trans g89
              have S9 := S8.g N hh g89
              have hh9 : Hand H9 hd c := g89.hand (hd, c) rfl hh8
              have h9R := g89.keep R _ offR h8R
              refine w_ite (fun e => ?_) (fun e => ?_)
              · obtain ⟨nx, mlt⟩ := kt2 e
                have lx0 : 0 < xs.length := List.length_pos_iff.mpr nx
                walk_at "ws"
                refine ⟨R, _, rfl, .inl (SqL.of h9R), ?_⟩
                walk_at "ws"
                refine ⟨hd, c, (xs.length : Int), rfl, hh9, by omega, by omega, fun r HA r0 r1 gA hhA => ?_⟩
                have SA := S9.g N hh gA
                have hAR := gA.keep R _ offR h9R
                have rl : r.toNat < xs.length := by omega
                obtain ⟨j, b, q, ev, hb, hq, nq⟩ := hxs _ (List.getElem_mem rl)
                have gHA := g09.trans gA
                have tupA := tup.g gHA hhp
                obtain ⟨u, hu⟩ : ∃ u, W[j]? = some u := ⟨_, List.getElem?_eq_getElem (by have := (List.getElem?_eq_some_iff.mp hb).1; omega)⟩
                obtain ⟨l, hl⟩ : ∃ l, ls[j]? = some l := ⟨_, List.getElem?_eq_getElem (by have := (List.getElem?_eq_some_iff.mp hb).1; omega)⟩
                have ht := tupA.2 j b u hb hu
                have um := web.mem u (List.mem_of_getElem? hu)
                refine r_ixL (SqL.of hAR) (v := .ref b) (at_of (j := r.toNat) (by omega) (by rw [List.getElem?_eq_getElem rl, ev])) ?_
                refine ⟨b, _, rfl, SqT.of ht, rfl, ?_⟩
                refine ⟨_, _, rfl, ?_⟩
                walk_at "ws"
                refine ⟨_, _, rfl, ?_⟩
                walk_at "ws"
                refine ⟨rfl, ?_⟩
                walk_at "ws"
                refine w_dget ?_
                walk_at "ws"
                refine ⟨sz (by simp), fun t HB ht2 gB hB => ?_⟩
                have SB := SA.g N hh (gB _)
                refine i_dget (web_nodup web) SB.ld hB hu hl ?_
                obtain ⟨p0, q', rfl⟩ : ∃ p0 q', q = p0 :: q' := by
                  cases q with
                  | nil => exact absurd rfl nq
                  | cons p0 q' => exact ⟨p0, q', rfl⟩
                have hlB := SB.ls.2 j l _ hl hq
                refine i_BM hlB ?_
                walk_at "ws"
                refine ⟨l, (p0 :: q').map V.int, 0, 0, .int p0, rfl, rfl, hlB, by decide, by decide, pop_ix (r := 0) (by decide) (by simp), rfl, ?_⟩
                rw [erase_ints]
                have SC := SB.let' N hl ((p0 :: q').eraseIdx 0)
                have gC := ((gHA.trans (gB _)).mut (l := l) (u := .lst (((p0 :: q').eraseIdx 0).map V.int)) (N.ls l (List.mem_of_getElem? hl)) hhp)
                walk_at "ws"
                refine i_BM SC.st ?_
                walk_at "ws"
                refine ⟨sz (by simp), fun t2 HD ht3 gD hD => ?_⟩
                have SD := SC.g N hh (gD _)
                have sl := T6.sl
                walk_at "ws"
                refine r_app SD.st (by omega) ?_
                walk_at "ws"
                refine kN2 _ _ ?_
                have mq := List.mem_of_getElem? hq
                refine ⟨_, more + 1, p0, u.2, _, _, _, _, _, ds, left, lt.set j ((p0 :: q').eraseIdx 0), _, rfl, (gC.trans (gD _)).mut N.st hhp, SD.step' N _, ?_, O6.wk _, T6.tr _ mq p0 List.mem_cons_self, um.2.1⟩
                refine ⟨T6.ld, T6.nd, T6.rng, T6.lr, fun l hl p hp => ?_, by omega, T6.ll, by omega, by omega, by rw [List.length_append, List.length_singleton]; omega, fun l hl => ?_⟩
                · rcases mem_set_list hl with z | z
                  · exact T6.tr l z p hp
                  · rw [z] at hp
                    exact T6.tr _ mq p (List.mem_cons_of_mem _ hp)
                · rcases mem_set_list hl with z | z
                  · exact T6.tl l z
                  · rw [z]
                    have := T6.tl _ mq
                    simp at this ⊢
                    omega
              · have hn := kf2 e
                have l0 : left = [] := Classical.byContradiction fun z => hn (hf z)
                subst l0
                walk_at "ws"
                refine kN1 _ _ ?_
                exact ⟨_, _, _, _, _, _, _, _, _, ds, lt, sv, rfl, g09, S9, ⟨_, _, T6⟩, O6⟩
      · clear hv7 tup7 hh7 offR g67 S7 hxs lx h7 g7 hR lls tup6 hv6 hwa6 hh6 S6 T6 O6 TT ci cl cm c0 g6
        rintro σ H8 ⟨u6, more', put, x, u11, u12, u15, u16, u17, ds', left', lt', sv', rfl, g8, S8, T8, O8, pr, xr⟩
        obtain ⟨x, rfl⟩ : ∃ y : Nat, x = (y : Int) := ⟨x.toNat, by omega⟩
        have ld8 := T8.ld
        have lrs : rs.length = ds'.length := S8.rs.1
        obtain ⟨l, hl⟩ : ∃ l, rs[x]? = some l := ⟨_, List.getElem?_eq_getElem (by omega)⟩
        obtain ⟨d, hd'⟩ : ∃ d, ds'[x]? = some d := ⟨_, List.getElem?_eq_getElem (by omega)⟩
        have hdl := S8.rs.2 x l d hl hd'
        have md := List.mem_of_getElem? hd'
        have dlen := diary_len (T8.nd d md) (T8.rng d md)
        walk_at "ws"
        refine r_ixL (SqL.of S8.dl) (v := .ref l) (at_of (j := x) rfl (by rw [List.getElem?_map, hl]; rfl)) ?_
        refine ⟨l, _, rfl, .inl (SqL.of hdl), rfl, by rw [List.all_map, List.all_eq_true]; intro q _; rfl, ?_⟩
        rw [inV_ints]
        by_cases cp : put ∈ d
        · rw [decide_eq_true cp]
          walk_at "ws"
          refine w_iteN rfl ?_
          walk_at "ws"
          exact ⟨_, _, _, _, _, _, _, _, _, ds', left', lt', sv', rfl, g8, S8, ⟨T8.ld, T8.nd, T8.rng, T8.lr, T8.tr, T8.cnt, T8.ll, T8.m0, T8.mm, T8.sl, fun l hl => Nat.le_succ_of_le (T8.tl l hl)⟩, O8.had (by rw [Int.toNat_natCast]; exact hd') cp⟩
        · rw [decide_eq_false cp]
          walk_at "ws"
          refine w_iteE rfl ?_
          walk_at "ws"
          refine r_ixL (SqL.of S8.dl) (v := .ref l) (at_of (j := x) rfl (by rw [List.getElem?_map, hl]; rfl)) ?_
          refine i_BM hdl ?_
          walk_at "ws"
          refine r_app hdl (by rw [List.length_map]; omega) ?_
          have e1 : d.map V.int ++ [V.int put] = (d ++ [put]).map V.int := by rw [List.map_append]; rfl
          rw [e1]
          have S9 := S8.dia' N hl (d ++ [put])
          have g9 := g8.mut (l := l) (u := .lst ((d ++ [put]).map V.int)) (N.rs l (List.mem_of_getElem? hl)) hhp
          walk_at "ws"
          refine i_tup (sqT_t g9.tups hwa) ?_
          refine for_it (walk_tup (xs := bs.map V.ref)) (fun j σ H' => ∃ (u6 : Option V) (lt2 : List (List Int)), σ = [some (.ref hd), some (.int (n : Int)), some (.ref wa), some (.ref vp), some (.int most), some (.ref dl), u6, some (.ref ld), some (.ref lf), some (.ref st), some (.int more'), u11, u12, some (.int put), some (.int (x : Int)), u15, u16, u17] ∧ G (some (hd, c)) H H' ∧ RanS W ⟨dl, lf, st, ld, rs, ls⟩ H' (ds'.set x (d ++ [put])) left' lt2 sv' ∧ (∀ l ∈ lt2, ∀ p ∈ l, 0 ≤ p ∧ p < (ws.length : Int)) ∧ ∀ (z : Nat) (q : List Int), lt2[z]? = some q → q.length ≤ if z < j then i + 1 else i) ⟨_, lt', rfl, g9, S9, T8.tr, fun z q hq => T8.tl q (List.mem_of_getElem? hq)⟩ (fun _ _ _ _ ⟨_, _, _, q, _⟩ => sqT_t q.tups hwa) ?_ ?_
          · rintro j v σ _ HA hj ⟨u6, lt2, rfl, gA, SA, trA, tlA⟩ ⟨rfl, hv'⟩
            rw [List.length_map] at hj
            rw [List.getElem?_map] at hv'
            obtain ⟨b, hb, rfl⟩ := Option.map_eq_some_iff.mp hv'
            obtain ⟨la, hla⟩ : ∃ l, ls[j]? = some l := ⟨_, List.getElem?_eq_getElem (by omega)⟩
            have lls : ls.length = lt2.length := SA.ls.1
            obtain ⟨q, hq⟩ : ∃ q, lt2[j]? = some q := ⟨_, List.getElem?_eq_getElem (by omega)⟩
            obtain ⟨u, hu⟩ : ∃ u, W[j]? = some u := ⟨_, List.getElem?_eq_getElem (by omega)⟩
            have ht := (tup.g gA hhp).2 j b u hb hu
            have hlA := SA.ls.2 j la q hla hq
            have ql := tlA j q hq
            rw [if_neg (Nat.lt_irrefl j)] at ql
            have i70 : i ≤ 70 := by omega
            walk_at "ws"
            refine r_ixT (SqT.of ht) (v := .int u.1) (at_of (j := 0) rfl rfl) ?_
            walk_at "ws"
            refine w_ite (fun e => ?_) (fun e => ?_)
            · walk_at "ws"
              refine w_dget ?_
              walk_at "ws"
              refine i_dget (web_nodup web) SA.ld ht hu hla ?_
              refine i_BM hlA ?_
              walk_at "ws"
              refine r_app hlA (by rw [List.length_map]; omega) ?_
              have e2 : q.map V.int ++ [V.int put] = (q ++ [put]).map V.int := by rw [List.map_append]; rfl
              rw [e2]
              walk_at "ws"
              refine ⟨_, lt2.set j (q ++ [put]), rfl, gA.mut (N.ls la (List.mem_of_getElem? hla)) hhp, SA.let' N hla (q ++ [put]), fun l hl p hp => ?_, fun z q2 hz => ?_⟩
              · rcases mem_set_list hl with y | y
                · exact trA l y p hp
                · rw [y] at hp
                  rcases List.mem_append.mp hp with y2 | y2
                  · exact trA q (List.mem_of_getElem? hq) p y2
                  · have : p = put := by simpa using y2
                    rw [this]; exact pr
              · by_cases cz : j = z
                · subst cz
                  rw [List.getElem?_set_self (by omega)] at hz
                  cases hz
                  rw [if_pos (Nat.lt_succ_self _), List.length_append, List.length_singleton]
                  omega
                · rw [List.getElem?_set_ne cz] at hz
                  have := tlA z q2 hz
                  split at this <;> split <;> omega
            · walk_at "ws"
              refine ⟨_, lt2, rfl, gA, SA, trA, fun z q2 hz => ?_⟩
              have := tlA z q2 hz
              split at this <;> split <;> omega
          · rintro σ HA ⟨u6, lt2, rfl, gA, SA, trA, tlA⟩
            walk_at "ws"
            refine ⟨_, _, _, _, _, _, _, _, _, _, left', lt2, sv', rfl, gA, SA, ⟨by rw [List.length_set]; exact T8.ld, fun e he => ?_, fun e he p hp => ?_, T8.lr, trA, T8.cnt, T8.ll, T8.m0, T8.mm, T8.sl, fun q hq => ?_⟩, ?_⟩
            · rcases mem_set_list he with y | y
              · exact T8.nd e y
              · rw [y]; exact nodup_snoc (T8.nd d md) cp
            · rcases mem_set_list he with y | y
              · exact T8.rng e y p hp
              · rw [y] at hp
                rcases List.mem_append.mp hp with y2 | y2
                · exact T8.rng d md p y2
                · have : p = put := by simpa using y2
                  rw [this]; exact pr
            · obtain ⟨z, hz⟩ := List.getElem?_of_mem hq
              have := tlA z q hz
              split at this <;> omega
            · have := O8.app (d := d) (by rw [Int.toNat_natCast]; exact hd')
              rw [Int.toNat_natCast] at this
              exact this
    · rintro σ H6 ⟨u6, more, u11, u12, u13, u14, u15, u16, u17, ds, left, lt, sv, rfl, g6, S6, T6, O6⟩
      refine kN1 _ _ ?_
      have cnt := T6.cnt
      have := T6.ll
      have := T6.mm
      have l0 : left = [] := List.eq_nil_of_length_eq_zero (by omega)
      subst l0
      exact ⟨_, _, _, _, _, _, _, _, _, ds, lt, sv, rfl, g6, S6, ⟨_, _, T6⟩, O6⟩
  · clear S5 T5 O5 g5'
    rintro σ H6 ⟨u6, more, u11, u12, u13, u14, u15, u16, u17, ds, lt, sv, rfl, g6, S6, ⟨i, b, T6⟩, O6⟩
    have isr := ran_rec T6 O6 (by omega) (by omega) p30 hws
    have lrs : rs.length = ds.length := S6.rs.1
    have ld6 := T6.ld
    walk_at "ws"
    refine i_list (SqL.of S6.dl) ?_
    intro D hD
    refine lc_it (walk_list (xs := rs.map V.ref)) (fun i H' => ∃ fs : List Addr, G none H6 H' ∧ H' D = some (.lst (fs.map V.ref)) ∧ fs.length = i ∧ ∀ (j : Nat) (f : Addr) (d : List Int), fs[j]? = some f → ds[j]? = some d → FrzT H' f (d.map V.int)) ⟨[], (G.refl).mut hD (fun _ e => nomatch e), upd_same, rfl, (fun j f d e => by simp at e)⟩ (fun i H' _ ⟨_, q, _⟩ => SqL.of (q.all _ _ S6.dl)) ?_ ?_
    · rintro j v _ H7 hj ⟨fs, g7, h7, lfs, hfs⟩ ⟨rfl, hv'⟩
      rw [List.length_map] at hj
      rw [List.getElem?_map] at hv'
      obtain ⟨l, hl, rfl⟩ := Option.map_eq_some_iff.mp hv'
      obtain ⟨d, hd'⟩ : ∃ d, ds[j]? = some d := ⟨_, List.getElem?_eq_getElem (by omega)⟩
      walk_at "ws"
      refine ⟨rfl, ?_⟩
      walk_at "ws"
      refine ⟨l, _, rfl, SqL.of (g7.all _ _ (S6.rs.2 j l d hl hd')), fun f H8 hf g8 h8 => ?_⟩
      have h8D := (g8 none).all _ _ h7
      refine ⟨fs.map V.ref, h8D, Nat.lt_of_le_of_lt (by rw [List.length_map]; omega : (fs.map V.ref).length ≤ 100000) (by decide), fs ++ [f], (g7.trans (g8 none)).mut hD (fun _ e => nomatch e), by rw [upd_same, List.map_append]; rfl, by rw [List.length_append, lfs]; rfl, fun j2 f2 d2 e1 e2 => ?_⟩
      by_cases cj : j2 < fs.length
      · rw [List.getElem?_append_left cj] at e1
        exact FrzT.put ((hfs j2 f2 d2 e1 e2).n (g8 none)) h8D
      · have ej : j2 = j := by
          have := (List.getElem?_eq_some_iff.mp e1).1
          rw [List.length_append, List.length_singleton] at this
          omega
        subst ej
        rw [List.getElem?_append_right (by omega), lfs, Nat.sub_self] at e1
        rw [hd'] at e2
        cases e1; cases e2
        exact FrzT.put h8 h8D
    rintro H7 ⟨fs, g7, h7, lfs, hfs⟩
    rw [List.length_map] at lfs
    walk_at "ws"
    refine ⟨D, _, rfl, .inl ⟨SqL.of h7, fun dt H8 hdt g8 h8 => ?_⟩⟩
    walk_at "ws"
    refine ⟨sz (by simp), fun p H9 hp g9 h9 => ?_⟩
    have g69 := (g7.trans (g8 none)).trans (g9 none)
    have g09 := g6.trans g69.up
    exact k p dt st ds H9 g09 (g09.hand (hd, c) rfl hh) h9 (.tup (.inl ((g9 none).all _ _ h8)) (ab_dias (by omega) fun j f d e1 e2 => ((hfs j f d e1 e2).n (g8 none)).n (g9 none))) ld6 isr

end
end Mine
/-! ## K12 -/


namespace Mine
section
variable {P : Program} {w : World} {K : PySem.W.Frag} {mg : Str → Option Value} {base : Heap} {a : Ads}

/-! ### _law_due -/
def DueV (H : Hp) (v : V) : Option (Str × Int) → Prop
  | none => v = .non
  | some e => ∃ q, v = .ref q ∧ H q = some (.tup [.str e.1, .int e.2])
def sp__law_due (C : Addr) : Sp := fun vs H Q _ => ∃ (hd : Addr) (wv dv : V) (tw td : Tg), vs = [wv, dv] ∧ Ab C hd H wv tw ∧ Ab C hd H dv td ∧ smT td = true ∧ ∀ v H', G none H H' → DueV H' v (due tw td) → Q v H'
theorem ok__law_due (T : Txt K mg a) : FnOk P w K mg base CX0 2 a.f__law_due a.d__law_due P__law_due (sp__law_due a.c_Record) := by
  refine T.F__law_due.ok sc__law_due (fun vs H Q E h => by obtain ⟨hd, wv, dv, tw, td, rfl, _⟩ := h; rfl) (fun cdv A outer s H vs Q E hr h => ?_)
  obtain ⟨hd, wv, dv, tw, td, rfl, hw, hdd, sm, k⟩ := h
  have G__law_is_whole : FnOk P w K mg base CX0 1 a.f__law_is_whole a.d__law_is_whole P__law_is_whole (sp__law_is_whole a.c_Record) := ok__law_is_whole T
  have G__law_is_sized : FnOk P w K mg base CX0 1 a.f__law_is_sized a.d__law_is_sized P__law_is_sized (sp__law_is_sized a.c_Record) := ok__law_is_sized T
  refine ⟨_, (pss_cons (ps_if (pt_not (pt_val (pe_call (G__law_is_sized) (hr.mono (by omega)) rfl T.m__law_is_sized T.F__law_is_sized.kp T.b__law_is_sized .nil pass0 (pa_cons (pv 1) (pa_cons pe_int (pa_cons pe_int pa_nil))))))
    (pss_one (ps_ret (pe_tupN (pa_cons pe_str (pa_cons (pe_un un_neg pe_int) pa_nil)))))
    pss_nil)
  (pss_cons (ps_if (pt_not (pt_val (pe_call (G__law_is_sized) (hr.mono (by omega)) rfl T.m__law_is_sized T.F__law_is_sized.kp T.b__law_is_sized .nil pass0 (pa_cons (pv 0) (pa_cons pe_int (pa_cons pe_int pa_nil))))))
    (pss_one (ps_ret (pe_tupN (pa_cons pe_str (pa_cons (pe_un un_neg pe_int) pa_nil)))))
    pss_nil)
  (pss_cons (ps_for PassesOwn.never rfl (pi_enumT (by rfl) T.n_enumerate (pa_cons (pv 0) pa_nil)) (pg_tup rfl (pgs_cons (pg_name (i := 2) sc__law_due.nd rfl (Or.inl rfl)) (pgs_cons (pg_name (i := 3) sc__law_due.nd rfl (Or.inl rfl)) pgs_nil)))
    (pss_one (ps_if (pt_not (pt_val (pe_call (G__law_is_whole) (hr.mono (by omega)) rfl T.m__law_is_whole T.F__law_is_whole.kp T.b__law_is_whole .nil pass0 (pa_cons (pv 3) (pa_cons (pe_callB call_len_seq (by rfl) T.n_len (by decide +kernel) (pa_cons (pv 1) pa_nil)) pa_nil)))))
    (pss_one (ps_ret (pe_tupN (pa_cons pe_str (pa_cons (pv 2) pa_nil)))))
    pss_nil)))
  (pss_cons (ps_for PassesOwn.never rfl (pi_enumT (by rfl) T.n_enumerate (pa_cons (pv 1) pa_nil)) (pg_tup rfl (pgs_cons (pg_name (i := 4) sc__law_due.nd rfl (Or.inl rfl)) (pgs_cons (pg_name (i := 5) sc__law_due.nd rfl (Or.inl rfl)) pgs_nil)))
    (pss_cons (ps_if (L2.PW.pt (pw_or (pt_not (pt_val (pe_callB call_isi (by rfl) T.n_isinstance (by decide +kernel) (pa_cons (pv 5) (pa_cons (pe_bltn (v := .ty "tuple") (u := .type "tuple") rfl T.n_tuple (by decide +kernel) rfl) pa_nil))))) (pw_or1 (pt_not (pt_val (pe_callB (cr_all rfl) (by rfl) T.n_all (by decide +kernel) (pa_cons (pe_lc (own := [("_law_put", 2)]) (g := (gName 2)) (tt := tYes) rfl sc__law_due.nd (pi_tup (pv 5)) (blkOk_by (N := N__law_due) (sc := defScope s__law_due) (by decide +kernel)) (fun _ _ _ _ _ => (pg_name (i := 2) sc__law_due.nd rfl (by first | exact Or.inl rfl | exact Or.inr rfl))) (fun _ _ _ _ _ => pts_nil) (fun _ _ _ _ _ => (pe_call (G__law_is_whole) (hr.mono (by omega)) rfl T.m__law_is_whole T.F__law_is_whole.kp T.b__law_is_whole .nil pass0 (pa_cons (pv 2) (pa_cons (pe_callB (k_call_len_seq K) (by rfl) T.n_len (by decide +kernel) (pa_cons (pv 0) pa_nil)) pa_nil))))) pa_nil)))))))
    (pss_one (ps_ret (pe_tupN (pa_cons pe_str (pa_cons (pv 4) pa_nil)))))
    pss_nil)
  (pss_one (ps_if (pt_cmpR op_ne (pe_lenSetTG rfl (by rfl) T.n_len (by rfl) T.n_set (pv 5)) (pe_callB call_len_seq (by rfl) T.n_len (by decide +kernel) (pa_cons (pv 5) pa_nil)) (nomark _))
    (pss_one (ps_ret (pe_tupN (pa_cons pe_str (pa_cons (pv 4) pa_nil)))))
    pss_nil))))
  (pss_cons (ps_for PassesOwn.never rfl (pi_enumT (by rfl) T.n_enumerate (pa_cons (pv 0) pa_nil)) (pg_tup rfl (pgs_cons (pg_name (i := 2) sc__law_due.nd rfl (Or.inl rfl)) (pgs_cons (pg_name (i := 3) sc__law_due.nd rfl (Or.inl rfl)) pgs_nil)))
    (pss_one (ps_if (pt_cmpR op_notIn_seq (pv 2) (pe_ix ix_tup (pv 1) (pv 3) (fun _ _ => rfl)) (by rfl))
    (pss_one (ps_ret (pe_tupN (pa_cons pe_str (pa_cons (pv 2) pa_nil)))))
    pss_nil)))
  (pss_one (ps_ret pe_non))))))), ?_⟩
  walk_at "ws"
  refine ⟨1, 7, hd, dv, td, rfl, hdd, ?_⟩
  walk_at "ws"
  refine w_ite (fun e => ?_) (fun e => ?_)
  · have e : tsz 1 7 td = false := by simpa using e
    walk_at "ws"
    refine ⟨sz (by simp), fun q H2 hq g2 h2 => ?_⟩
    exact k _ _ (g2 none) (by rw [due_1 e]; exact ⟨q, rfl, h2⟩)
  have e1 : tsz 1 7 td = true := by simpa using e
  obtain ⟨dp, dxs, dts, rfl, rfl, rd, ad⟩ := tsz_tup hdd e1
  walk_at "ws"
  refine ⟨0, 30, hd, wv, tw, rfl, hw, ?_⟩
  walk_at "ws"
  refine w_ite (fun e => ?_) (fun e => ?_)
  · have e : tsz 0 30 tw = false := by simpa using e
    walk_at "ws"
    refine ⟨sz (by simp), fun q H2 hq g2 h2 => ?_⟩
    exact k _ _ (g2 none) (by rw [due_2 e1 e]; exact ⟨q, rfl, h2⟩)
  have e2 : tsz 0 30 tw = true := by simpa using e
  obtain ⟨wp, wxs, wts, rfl, rfl, rw_, aw⟩ := tsz_tup hw e2
  have lw := aw.length
  have ld := ad.length
  have g0 : G none H H := G.refl
  walk_at "ws"

  refine i_enum (.inl (g0.tups _ _ rw_)) ?_
  refine for_it (walk_enumT (xs := wxs)) (fun i σ H1 => G none H H1 ∧ (∀ j, j < i → okW dts.length wts j = true) ∧ ∃ u2 u3 u4 u5, σ = [some (.ref wp), some (.ref dp), u2, u3, u4, u5]) ⟨g0, (fun _ h => absurd h (Nat.not_lt_zero _)), _, _, _, _, rfl⟩ (fun i σ H1 _ h => .inl (h.1.tups _ _ rw_)) ?_ ?_
  · rintro i x σ H1 H2 hi ⟨g1, ho, u2, u3, u4, u5, rfl⟩ ⟨t, y, z, rfl, ht, rfl, ey, ez⟩
    cases Option.some.inj ey
    have g2 : G none H1 (upd H1 t (.tup [.int (i : Nat), z])) := G.alloc ht
    refine ⟨t, _, rfl, SqT.of upd_same, rfl, ?_⟩
    refine ⟨_, _, rfl, ?_⟩
    walk_at "ws"
    refine ⟨_, _, rfl, ?_⟩
    walk_at "ws"
    refine ⟨rfl, ?_⟩
    generalize upd H1 t (.tup [.int (i : Nat), z]) = H2 at g2 ⊢
    have g02 := g1.trans g2
    have hlt : i < wts.length := by omega
    obtain ⟨tg, htg, hz⟩ := aw.get ez
    have egi := getD_of htg
    have hz := hz.n g02

    walk_at "ws"
    refine ⟨dp, dxs, rfl, .inr (.inl (g02.tups _ _ rd)), ?_⟩
    rw [ld]
    walk_at "ws"
    refine ⟨(dts.length : Int), hd, z, tg, rfl, hz, ?_⟩
    have eo : okW dts.length wts i = blw dts.length tg := by unfold okW; rw [egi]
    rw [← eo]
    walk_at "ws"
    refine w_ite (fun e => ?_) (fun e => ?_)
    · have e : okW dts.length wts i = false := by simpa using e
      walk_at "ws"
      refine ⟨sz (by simp), fun q H3 hq g3 h3 => ?_⟩
      exact k _ _ (g02.trans (g3 none)) (by rw [due_3 e1 e2 (fw_some hlt ho e)]; exact ⟨q, rfl, h3⟩)

    · have e : okW dts.length wts i = true := by simpa using e
      walk_at "ws"
      refine ⟨g02, fun j hj => ?_, _, _, _, _, rfl⟩
      rcases Nat.lt_succ_iff_lt_or_eq.mp hj with q | q
      · exact ho j q
      · rw [q]; exact e

  rintro σ H1 ⟨g1, ho, u2, u3, u4, u5, rfl⟩
  have f3 : fw (okW dts.length wts) wts.length = none := fw_none (by rw [← lw]; exact ho)
  clear ho
  walk_at "ws"

  refine i_enum (.inl (g1.tups _ _ rd)) ?_
  refine for_it (walk_enumT (xs := dxs)) (fun i σ H1 => G none H H1 ∧ (∀ j, j < i → okD wts.length dts j = true) ∧ ∃ u2 u3 u4 u5, σ = [some (.ref wp), some (.ref dp), u2, u3, u4, u5]) ⟨g1, (fun _ h => absurd h (Nat.not_lt_zero _)), _, _, _, _, rfl⟩ (fun i σ H1 _ h => .inl (h.1.tups _ _ rd)) ?_ ?_
  · rintro i x σ H1 H2 hi ⟨g1, ho, u2, u3, u4, u5, rfl⟩ ⟨t, y, z, rfl, ht, rfl, ey, ez⟩
    cases Option.some.inj ey
    have g2 : G none H1 (upd H1 t (.tup [.int (i : Nat), z])) := G.alloc ht
    refine ⟨t, _, rfl, SqT.of upd_same, rfl, ?_⟩
    refine ⟨_, _, rfl, ?_⟩
    walk_at "ws"
    refine ⟨_, _, rfl, ?_⟩
    walk_at "ws"
    refine ⟨rfl, ?_⟩
    generalize upd H1 t (.tup [.int (i : Nat), z]) = H2 at g2 ⊢
    have g02 := g1.trans g2
    have hlt : i < dts.length := by omega
    obtain ⟨tg, htg, hz⟩ := ad.get ez
    have egi := getD_of htg
    have hz := hz.n g02

    have smg := (smT_tup sm).2 _ (List.mem_of_getElem? htg)
    have bad : dia wts.length tg = false → okD wts.length dts i = false := fun e => by unfold okD; rw [egi, e]
    walk_at "ws"
    refine ab_isi T.ik hz (.inr (.inr (.inr rfl))) ?_
    walk_at "ws"
    refine w_ite (fun e3 => ?_) (fun e3 => ?_)
    · have eo := bad (dia_f (by simpa using e3))
      walk_at "ws"
      refine ⟨sz (by simp), fun q H3 hq g3 h3 => ?_⟩
      exact k _ _ (g02.trans (g3 none)) (by rw [due_4 e1 e2 f3 (fw_some hlt ho eo)]; exact ⟨q, rfl, h3⟩)
    have e3 : isT "tuple" tg = true := by simpa using e3
    obtain ⟨q, ys, us, rfl, rfl, hq, aq⟩ := tup_of hz e3
    have lu := (smT_tup smg).1
    have lq := aq.length
    clear g1 g2 e3 ht hi
    walk_at "ws"
    refine i_tup (.inl hq) ?_
    intro D hD
    refine lc_pure (K := K) (o := none) (walk_tup (xs := ys)) (by omega) hD (fun _ e => nomatch e) (fun j => us[j]?.map fun t => .bool (blw wts.length t)) (fun H' g => .inl (g.tups _ _ hq)) ?_ ?_
    · rintro j y H4 H5 hj g ⟨rfl, hy1⟩ Qy Qn ky kn
      obtain ⟨t9, ht9, ha9⟩ := aq.get hy1
      walk_at "ws"
      refine ⟨rfl, ?_⟩
      walk_at "ws"
      refine ⟨wp, wxs, rfl, .inr (.inl ((g02.trans g).tups _ _ rw_)), ?_⟩
      rw [lw]
      walk_at "ws"
      refine ⟨_, hd, y, t9, rfl, ha9.n g, ky _ _ _ G.refl (.bl _) rfl (by rw [ht9]; rfl)⟩
    intro zs H4 g4 hD4 hds _
    rw [lq, filterMap_range_map] at hds
    obtain rfl := bools_tg hds
    have g04 := g02.trans g4
    have hq4 := g4.tups _ _ hq
    walk_at "ws"
    refine ⟨D, us.map (blw wts.length), rfl, SqL.of hD4, ?_⟩
    have ea : (us.map (blw wts.length)).all id = us.all (blw wts.length) := by rw [List.all_map]; rfl
    rw [ea]
    walk_at "ws"
    refine w_ite (fun e5 => ?_) (fun e5 => ?_)
    · have e5 : us.all (blw wts.length) = false := by
        cases h : us.all (blw wts.length) with
        | true => rw [h] at e5; cases e5
        | false => rfl
      have eo := bad (by show (us.all (blw wts.length) && decide (tgInts us).Nodup) = false; rw [e5]; rfl)
      walk_at "ws"
      refine ⟨sz (by simp), fun q9 H9 hq9 g9 h9 => ?_⟩
      exact k _ _ (g04.trans (g9 none)) (by rw [due_4 e1 e2 f3 (fw_some hlt ho eo)]; exact ⟨q9, rfl, h9⟩)
    have e5 : us.all (blw wts.length) = true := by
      cases h : us.all (blw wts.length) with
      | true => rfl
      | false => rw [h] at e5; cases e5
    have ei := all_ints e5
    have ex : ys = (tgInts us).map V.int := by
      have aq2 := aq
      rw [ei] at aq2
      exact aq2.ints_inv
    have li : (tgInts us).length = us.length := by
      have := congrArg List.length ei
      simpa using this.symm
    walk_at "ws"
    refine w_lenSetTG ?_
    walk_at "ws"
    refine ⟨q, tgInts us, rfl, by rw [← ex]; exact .inl hq4, by omega, fun j hj => ?_⟩
    walk_at "ws"
    refine ⟨q, _, rfl, .inr (.inl hq4), ?_⟩
    rw [lq]
    walk_at "ws"
    have eo : okD wts.length dts i = decide ((j : Int) = us.length) := by
      unfold okD
      rw [egi]
      show (us.all (blw wts.length) && decide (tgInts us).Nodup) = _
      rw [e5, Bool.true_and, decide_eq_decide, ← hj, li]
      omega
    rw [← eo]
    refine w_ite (fun e => ?_) (fun e => ?_)
    · have e : okD wts.length dts i = false := by simpa using e
      walk_at "ws"
      refine ⟨sz (by simp), fun q9 H9 hq9 g9 h9 => ?_⟩
      exact k _ _ (g04.trans (g9 none)) (by rw [due_4 e1 e2 f3 (fw_some hlt ho e)]; exact ⟨q9, rfl, h9⟩)

    · have e : okD wts.length dts i = true := by simpa using e
      walk_at "ws"
      refine ⟨g04, fun j hj => ?_, _, _, _, _, rfl⟩
      rcases Nat.lt_succ_iff_lt_or_eq.mp hj with q | q
      · exact ho j q
      · rw [q]; exact e

  rintro σ H1 ⟨g1, ho, u2, u3, u4, u5, rfl⟩
  have f4 : fw (okD wts.length dts) dts.length = none := fw_none (by rw [← ld]; exact ho)
  clear ho
  walk_at "ws"

  refine i_enum (.inl (g1.tups _ _ rw_)) ?_
  refine for_it (walk_enumT (xs := wxs)) (fun i σ H1 => G none H H1 ∧ (∀ j, j < i → okP wts dts j = true) ∧ ∃ u2 u3 u4 u5, σ = [some (.ref wp), some (.ref dp), u2, u3, u4, u5]) ⟨g1, (fun _ h => absurd h (Nat.not_lt_zero _)), _, _, _, _, rfl⟩ (fun i σ H1 _ h => .inl (h.1.tups _ _ rw_)) ?_ ?_
  · rintro i x σ H1 H2 hi ⟨g1, ho, u2, u3, u4, u5, rfl⟩ ⟨t, y, z, rfl, ht, rfl, ey, ez⟩
    cases Option.some.inj ey
    have g2 : G none H1 (upd H1 t (.tup [.int (i : Nat), z])) := G.alloc ht
    refine ⟨t, _, rfl, SqT.of upd_same, rfl, ?_⟩
    refine ⟨_, _, rfl, ?_⟩
    walk_at "ws"
    refine ⟨_, _, rfl, ?_⟩
    walk_at "ws"
    refine ⟨rfl, ?_⟩
    generalize upd H1 t (.tup [.int (i : Nat), z]) = H2 at g2 ⊢
    have g02 := g1.trans g2
    have hlt : i < wts.length := by omega
    obtain ⟨tg, htg, hz⟩ := aw.get ez
    have egi := getD_of htg
    have hz := hz.n g02

    have bw : blw dts.length tg = true := by
      have := fw_all f3 i hlt
      unfold okW at this
      rw [egi] at this
      exact this
    obtain ⟨x0, rfl⟩ := blw_int bw
    obtain rfl := hz.int_inv
    have bx : 0 ≤ x0 ∧ x0 < dts.length := by simpa [blw] using bw
    have hdx : dts[x0.toNat]? = some (dts.getD x0.toNat .non) := by rw [List.getD_eq_getElem?_getD, List.getElem?_eq_getElem (by omega : x0.toNat < dts.length)]; rfl
    obtain ⟨vd, hvd, had⟩ := ad.get' hdx
    have dd := fw_all f4 x0.toNat (by omega)
    obtain ⟨q, d, rfl, ed, rq, nd, _⟩ := dia_tup had dd
    walk_at "ws"
    refine r_ixT (.inl (g02.tups _ _ rd)) (v := .ref q) (at_of (j := x0.toNat) (by omega) hvd) ?_
    walk_at "ws"
    refine ⟨q, _, rfl, .inr (.inl (g02.tups _ _ rq)), rfl, by rw [List.all_map, List.all_eq_true]; intro q _; rfl, ?_⟩
    rw [inV_ints]
    have eo : okP wts dts i = decide ((i : Int) ∈ d) := by
      unfold okP
      rw [egi]
      show decide ((i : Int) ∈ tgInts (itemsT (dts.getD x0.toNat .non))) = _
      rw [ed]
      show decide ((i : Int) ∈ tgInts (d.map Tg.int)) = _
      rw [ints_map]
    rw [← eo]
    walk_at "ws"
    refine w_ite (fun e => ?_) (fun e => ?_)
    · have e : okP wts dts i = false := by simpa using e
      walk_at "ws"
      refine ⟨sz (by simp), fun q9 H9 hq9 g9 h9 => ?_⟩
      exact k _ _ (g02.trans (g9 none)) (by rw [due_5 e1 e2 f3 f4 (fw_some hlt ho e)]; exact ⟨q9, rfl, h9⟩)

    · have e : okP wts dts i = true := by simpa using e
      walk_at "ws"
      refine ⟨g02, fun j hj => ?_, _, _, _, _, rfl⟩
      rcases Nat.lt_succ_iff_lt_or_eq.mp hj with q | q
      · exact ho j q
      · rw [q]; exact e

  rintro σ H1 ⟨g1, ho, u2, u3, u4, u5, rfl⟩
  have f5 : fw (okP wts dts) wts.length = none := fw_none (by rw [← lw]; exact ho)
  walk_at "ws"
  exact k _ H1 g1 (by rw [due_6 e1 e2 f3 f4 f5]; rfl)


end
end Mine
/-! ## K13 -/


namespace Mine
section
variable {P : Program} {w : World} {K : PySem.W.Frag} {mg : Str → Option Value} {base : Heap} {a : Ads}

/-! ### _law_told -/
theorem ap_ : ¬ (("part" : Str) = "at") := by decide +kernel
theorem xfs_p (v u : V) : (xfs v u).lookup ("part" : Str) = some v := by
  have e : (("part" : Str) == "at") = false := by simpa using ap_
  simp [xfs, List.lookup, e]
theorem xfs_a (v u : V) : (xfs v u).lookup ("at" : Str) = some u := by simp [xfs, List.lookup]
def sp__law_told (C : Addr) : Sp := fun vs H Q _ => ∃ (hd : Addr) (wv dv : V) (tw td : Tg), vs = [wv, dv] ∧ Ab C hd H wv tw ∧ Ab C hd H dv td ∧ smT td = true ∧
  ∀ (q : Addr) (made part : V) H', G none H H' → Rd H' q (.tup [made, part]) → DueV H' part (due tw td) → (due tw td = none → ∃ x dx, made = .ref x ∧ H' x = some (.ins C dx (rf wv dv))) → Q (.ref q) H'
theorem ok__law_told (T : Txt K mg a) : FnOk P w K mg base CX0 9 a.f__law_told a.d__law_told P__law_told (sp__law_told a.c_Record) := by
  refine T.F__law_told.ok sc__law_told (fun vs H Q E h => by obtain ⟨hd, wv, dv, tw, td, rfl, _⟩ := h; rfl) (fun cdv A outer s H vs Q E hr h => ?_)
  obtain ⟨hd, wv, dv, tw, td, rfl, hw, hdd, sm, k⟩ := h
  have G_Record_init : FnOk P w K mg base (L2.CX P w) 7 a.f_Record_init a.d_Record_init P_Record_init (sp_Record_init a.c_Record a.c_BadRecord) := ok_Record_init T
  refine ⟨_, (pss_cons (ps_set (i := 2) sc__law_told.nd rfl (Or.inl rfl) pe_non)
  (pss_cons (ps_set (i := 3) sc__law_told.nd rfl (Or.inl rfl) pe_str)
  (pss_cons (ps_try_as (i := 4) (tb := fun W => tSeq (tAsg (tMakeS a.c_Record (sp_Record_init a.c_Record a.c_BadRecord) (WE W) (tCons (tVar 0) (tCons (tVar 1) tNil))) (gName 2)) (tAsg (tC .non) (gName 3))) (Wout := fun _ _ _ _ => False) rfl rfl sc__law_told.nd rfl rfl ⟨rfl, by decide, Or.inl T.m_GrowError⟩ takes0 (fun W pn xe tk _ => (pss_cons (ps_set (i := 2) sc__law_told.nd rfl (Or.inl rfl) (by exact (pe_makeS T.K_Record G_Record_init (hr.mono (by decide)) rfl T.m_Record T.b_Record_init (fun σ => passAt tk σ) (pa_cons (pv 0) (pa_cons (pv 1) pa_nil))))) (pss_one (ps_set (i := 3) sc__law_told.nd rfl (Or.inl rfl) pe_non)))) (fun x oe cls d pn hz hf => (pss_one (ps_if (L2.PW.pt (pw_and (pt_val (pe_callB (call_isX' T.xc hz hf) (by rfl) T.n_isinstance (by decide +kernel) (pa_cons (pv 4) (pa_cons (pe_glob (v := .ref a.c_BadRecord) rfl T.m_BadRecord rfl) pa_nil)))) (pw_and1 (pt_val (pe_callB (call_isX' T.xc hz hf) (by rfl) T.n_isinstance (by decide +kernel) (pa_cons (pv 4) (pa_cons (pe_bltn (v := .ty "ValueError") (u := .type "ValueError") rfl T.n_ValueError (by decide +kernel) rfl) pa_nil))))))) (pss_one (ps_set (i := 3) sc__law_told.nd rfl (Or.inl rfl) (pe_tupN (pa_cons (pe_xf T.xf T.xp hz hf (pv 4)) (pa_cons (pe_xf T.xf T.xa hz hf (pv 4)) pa_nil))))) pss_nil))))
  (pss_one (ps_ret (pe_tupN (pa_cons (pv 2) (pa_cons (pv 3) pa_nil)))))))), ?_⟩
  walk_at "ws"
  dsimp only
  walk_at "ws"
  refine w_makeS ?_
  walk_at "ws"
  refine make_rec hw hdd sm (fun e x dx H1 hx g1 h1 => ?_) (fun p y ee d H1 g1 h1 => ?_)
  · walk_at "ws"
    refine ⟨sz (by simp), fun q H2 hq g2 h2 => ?_⟩
    exact k q _ _ H2 ((g1 none).trans (g2 none)) (.inl h2) (by rw [e]; rfl) (fun _ => ⟨x, dx, rfl, (g2 none).all _ _ h1⟩)
  · refine ⟨true, T.xm, fun _ x0 hx0 => ?_, fun q => Bool.noConfusion q⟩
    walk_at "ws"
    refine ⟨rfl, _, _, true, d, _, rfl, .own _, rfl, h1, T.xs, ?_⟩
    walk_at "ws"
    refine ⟨rfl, _, _, true, d, _, rfl, .ty _, rfl, h1, T.xv, ?_⟩
    walk_at "ws"
    refine w_xf ?_
    walk_at "ws"
    refine ⟨rfl, rfl, d, _, .str p, rfl, h1, xfs_p _ _, ?_⟩
    walk_at "ws"
    refine w_xf ?_
    walk_at "ws"
    refine ⟨rfl, rfl, d, _, .int y, rfl, h1, xfs_a _ _, ?_⟩
    walk_at "ws"
    refine ⟨sz (by simp), fun q1 H2 hq1 g2 h2 => ?_⟩
    walk_at "ws"
    refine ⟨sz (by simp), fun q H3 hq g3 h3 => ?_⟩
    exact k q _ _ H3 ((g1.trans (g2 none)).trans (g3 none)) (.inl h3) (by rw [ee]; exact ⟨q1, rfl, (g3 none).all _ _ h2⟩) (fun z => by rw [ee] at z; cases z)

end
end Mine
/-! ## K14 -/


namespace Mine
section
variable {P : Program} {w : World} {K : PySem.W.Frag} {mg : Str → Option Value} {base : Heap} {a : Ads}

/-! ### _law_bent -/
def rRepN (K : PySem.W.Frag) : R2 := fun x y H Q => ∃ (l : Addr) (k : Int) (xs : List V), x = .ref l ∧ y = .int k ∧ SqT K H l xs ∧ xs ≠ [] ∧ 2 ≤ k ∧ k ≤ 1000 ∧ xs.length ≤ 1000 ∧ New H (.tup (List.replicate k.toNat xs).flatten) fun p H2 => Q (.ref p) H2
theorem op_repN {X : Cx} : OpR X (binaryOp .Mult) (rRepN X.K) := OpR.weak op_repT fun x y H Q ⟨l, k, xs, e1, e2, h1, h2, h3, h4, h5, q⟩ => ⟨l, k, xs, e1, e2, h1, h2, h3, h4, h5, fun p hp => q.go hp⟩
theorem ab_cut {C hd : Addr} {H : Hp} {xs : List V} {ts : List Tg} (h : AbAll C hd H xs ts) (lo hi : Option Int) : ∃ us, AbAll C hd H (cutV xs lo hi) us ∧ (∀ t ∈ us, t ∈ ts) ∧ us.length ≤ ts.length := by
  unfold cutV
  refine ⟨_, (h.drop _).take _, fun t ht => List.mem_of_mem_drop (List.mem_of_mem_take ht), ?_⟩
  rw [List.length_take, List.length_drop]
  omega
theorem cut_le (xs : List V) (lo hi : Option Int) : (cutV xs lo hi).length ≤ xs.length := by
  unfold cutV
  rw [List.length_take, List.length_drop]
  omega
theorem ab_rep {C hd : Addr} {H : Hp} {xs : List V} {ts : List Tg} (h : AbAll C hd H xs ts) : ∀ k : Nat, AbAll C hd H (List.replicate k xs).flatten (List.replicate k ts).flatten
  | 0 => .nil
  | k + 1 => by
    rw [List.replicate_succ, List.replicate_succ, List.flatten_cons, List.flatten_cons]
    exact h.app (ab_rep h k)
theorem ab_pick {C hd : Addr} {H : Hp} {xs : List V} {ts : List Tg} (h : AbAll C hd H xs ts) (f : Nat → Nat) : ∀ l : List Nat, AbAll C hd H (l.filterMap fun k => xs[f k]?) (l.filterMap fun k => ts[f k]?)
  | [] => .nil
  | k :: l => by
    have ih := ab_pick h f l
    rw [List.filterMap_cons, List.filterMap_cons]
    by_cases c : f k < xs.length
    · obtain ⟨t, ht, at_⟩ := h.get (List.getElem?_eq_getElem c)
      rw [List.getElem?_eq_getElem c, ht]
      exact .cons at_ ih
    · have c2 : ¬ f k < ts.length := by rw [← h.length]; exact c
      rw [List.getElem?_eq_none (by omega), List.getElem?_eq_none (by omega)]
      exact ih
theorem ab_tup_of {C hd : Addr} {H : Hp} {p : Addr} {ts : List Tg} (h : Ab C hd H (.ref p) (.tup ts)) : ∃ xs, Rd H p (.tup xs) ∧ AbAll C hd H xs ts := by
  cases h with
  | tup r al => exact ⟨_, r, al⟩
theorem sm_int (i : Int) : smT (.int i) = true := rfl
theorem sm_I {d : List Int} (h : d.length ≤ 1000) : smT (tgI d) = true := smT_of (by rw [List.length_map]; exact h) fun t ht => by
  obtain ⟨i, _, rfl⟩ := List.mem_map.mp ht
  rfl
theorem sm_items {ws : List Int} {ds : List (List Int)} (rec : IsRec ws ds) : ∀ t ∈ ds.map tgI, smT t = true := fun t ht => by
  obtain ⟨d, hd, rfl⟩ := List.mem_map.mp ht
  have := diary_len (rec.nd d hd) (rec.rng d hd)
  have := rec.p30
  exact sm_I (by omega)
theorem sm_ints {d : List Int} : ∀ t ∈ d.map Tg.int, smT t = true := fun t ht => by
  obtain ⟨i, _, rfl⟩ := List.mem_map.mp ht
  rfl
theorem sm_app {ts us : List Tg} (h : ∀ t ∈ ts, smT t = true) (k : ∀ t ∈ us, smT t = true) : ∀ t ∈ ts ++ us, smT t = true := fun t ht => (List.mem_append.mp ht).elim (h t) (k t)
theorem sm_one {u : Tg} (h : smT u = true) : ∀ t ∈ [u], smT t = true := fun t ht => by
  have e : t = u := by simpa using ht
  rw [e]; exact h
def sp__law_bent (C : Addr) : Sp := fun vs H Q _ => ∃ (hd c wp dp : Addr) (ws : List Int) (ds : List (List Int)), vs = [.ref hd, .ref wp, .ref dp] ∧ Hand H hd c ∧ Ab C hd H (.ref wp) (tgI ws) ∧ Ab C hd H (.ref dp) (tgDD ds) ∧ IsRec ws ds ∧
  ∀ (q : Addr) (wv dv : V) (tw td : Tg) H', G (some (hd, c)) H H' → Hand H' hd c → Rd H' q (.tup [wv, dv]) → Ab C hd H' wv tw → Ab C hd H' dv td → smT td = true → Q (.ref q) H'
theorem ok__law_bent (T : Txt K mg a) : FnOk P w K mg base CX0 10 a.f__law_bent a.d__law_bent P__law_bent (sp__law_bent a.c_Record) := by
  refine T.F__law_bent.ok sc__law_bent (fun vs H Q E h => by obtain ⟨hd, c, wp, dp, ws, ds, rfl, _⟩ := h; rfl) (fun cdv A outer s H vs Q E hr h => ?_)
  obtain ⟨hd, c, wp, dp, ws, ds, rfl, hh, hw, hdd, rec, k⟩ := h
  have G__law_draw : FnOk P w K mg base CX0 1 a.f__law_draw a.d__law_draw P__law_draw sp__law_draw := ok__law_draw T
  have G__law_odd : FnOk P w K mg base CX0 9 a.f__law_odd a.d__law_odd P__law_odd (sp__law_odd a.c_Record) := ok__law_odd T
  obtain ⟨dxs, rd, ad⟩ := ab_tup_of hdd
  obtain ⟨wxs, rw_, aw⟩ := ab_tup_of hw
  have ldx : dxs.length = ds.length := by rw [ad.length, List.length_map]
  have lwx : wxs.length = ws.length := by rw [aw.length, List.length_map]
  have m1 := rec.m1
  have m7 := rec.m7
  have p30 := rec.p30
  have smds := sm_items rec
  have smD : smT (tgDD ds) = true := smT_of (by rw [List.length_map]; omega) smds
  refine ⟨_, (pss_cons (ps_set (i := 3) sc__law_bent.nd rfl (Or.inl rfl) (pe_call (G__law_draw) (hr.mono (by omega)) rfl T.m__law_draw T.F__law_draw.kp T.b__law_draw .nil pass0 (pa_cons (pv 0) (pa_cons pe_int pa_nil))))
  (pss_cons (ps_set (i := 4) sc__law_bent.nd rfl (Or.inl rfl) (pe_call (G__law_odd) (hr.mono (by omega)) rfl T.m__law_odd T.F__law_odd.kp T.b__law_odd .nil pass0 (pa_cons (pv 0) pa_nil)))
  (pss_cons (ps_set (i := 5) sc__law_bent.nd rfl (Or.inl rfl) (pe_call (G__law_draw) (hr.mono (by omega)) rfl T.m__law_draw T.F__law_draw.kp T.b__law_draw .nil pass0 (pa_cons (pv 0) (pa_cons (pe_callB call_len_seq (by rfl) T.n_len (by decide +kernel) (pa_cons (pv 2) pa_nil)) pa_nil))))
  (pss_cons (ps_if (pt_cmpR op_eq (pv 3) pe_int (nomark _))
    (pss_one (ps_ret (pe_tupN (pa_cons (pv 1) (pa_cons (pe_ix ix_list (pe_lstN (pa_cons (pv 4) (pa_cons (pe_callTy call_listN (by rfl) T.n_list (by decide +kernel) (pa_cons (pv 2) pa_nil)) (pa_cons (pe_tupN pa_nil) (pa_cons (pe_op op_repN (pv 2) pe_int) (pa_cons (pe_slice sl_tupR (pv 2) po_none (po_some (pe_un un_neg pe_int))) pa_nil)))))) (pe_call (G__law_draw) (hr.mono (by omega)) rfl T.m__law_draw T.F__law_draw.kp T.b__law_draw .nil pass0 (pa_cons (pv 0) (pa_cons pe_int pa_nil))) (fun _ _ => rfl)) pa_nil)))))
    pss_nil)
  (pss_cons (ps_if (pt_cmpR op_eq (pv 3) pe_int (nomark _))
    (pss_one (ps_ret (pe_tupN (pa_cons (pe_ix ix_list (pe_lstN (pa_cons (pv 4) (pa_cons (pe_callTy call_listN (by rfl) T.n_list (by decide +kernel) (pa_cons (pv 1) pa_nil)) (pa_cons (pe_op op_repN (pe_tupN (pa_cons pe_int pa_nil)) pe_int) (pa_cons (pe_op op_catR (pv 1) (pe_tupN (pa_cons pe_int pa_nil))) (pa_cons (pe_slice sl_tupR (pv 1) po_none (po_some (pe_un un_neg pe_int))) pa_nil)))))) (pe_call (G__law_draw) (hr.mono (by omega)) rfl T.m__law_draw T.F__law_draw.kp T.b__law_draw .nil pass0 (pa_cons (pv 0) (pa_cons pe_int pa_nil))) (fun _ _ => rfl)) (pa_cons (pv 2) pa_nil)))))
    pss_nil)
  (pss_cons (ps_if (L2.PW.pt (pw_and (pt_cmpR op_eq (pv 3) pe_int (nomark _)) (pw_and1 (pt_cmpR op_gt (pe_callB call_len_seq (by rfl) T.n_len (by decide +kernel) (pa_cons (pv 1) pa_nil)) pe_int (nomark _)))))
    (pss_cons (ps_set (i := 6) sc__law_bent.nd rfl (Or.inl rfl) (pe_call (G__law_draw) (hr.mono (by omega)) rfl T.m__law_draw T.F__law_draw.kp T.b__law_draw .nil pass0 (pa_cons (pv 0) (pa_cons (pe_callB call_len_seq (by rfl) T.n_len (by decide +kernel) (pa_cons (pv 1) pa_nil)) pa_nil))))
  (pss_one (ps_ret (pe_tupN (pa_cons (pe_op op_catR (pe_op op_catR (pe_slice sl_tupR (pv 1) po_none (po_some (pv 6))) (pe_tupN (pa_cons (pe_ix ix_list (pe_lstN (pa_cons (pv 4) (pa_cons (pe_callB call_len_seq (by rfl) T.n_len (by decide +kernel) (pa_cons (pv 2) pa_nil)) (pa_cons (pv 5) pa_nil)))) (pe_call (G__law_draw) (hr.mono (by omega)) rfl T.m__law_draw T.F__law_draw.kp T.b__law_draw .nil pass0 (pa_cons (pv 0) (pa_cons pe_int pa_nil))) (fun _ _ => rfl)) pa_nil))) (pe_slice sl_tupR (pv 1) (po_some (pe_op op_add (pv 6) pe_int)) po_none)) (pa_cons (pv 2) pa_nil))))))
    pss_nil)
  (pss_cons (ps_set (i := 7) sc__law_bent.nd rfl (Or.inl rfl) (pe_ix ix_tup (pv 2) (pv 5) (fun _ _ => rfl)))
  (pss_cons (ps_set (i := 8) sc__law_bent.nd rfl (Or.inl rfl) (pe_lstN (pa_cons (pv 4) (pa_cons (pe_callTy call_listN (by rfl) T.n_list (by decide +kernel) (pa_cons (pv 7) pa_nil)) (pa_cons (pe_op op_catR (pv 7) (pe_tupN (pa_cons (pv 4) pa_nil))) (pa_cons (pe_op op_catR (pv 7) (pe_slice sl_tupR (pv 7) (po_some (pe_un un_neg pe_int)) po_none)) (pa_cons (pe_slice sl_tupR (pv 7) (po_some pe_int) po_none) (pa_cons (pe_revT (pv 7)) (pa_cons (pe_op op_catR (pv 7) (pe_tupN (pa_cons (pe_callB call_len_seq (by rfl) T.n_len (by decide +kernel) (pa_cons (pv 1) pa_nil)) pa_nil))) (pa_cons (pe_tupN pa_nil) (pa_cons (pe_slice sl_tupR (pv 7) po_none (po_some (pe_un un_neg pe_int))) pa_nil)))))))))))
  (pss_one (ps_ret (pe_tupN (pa_cons (pv 1) (pa_cons (pe_op op_catR (pe_op op_catR (pe_slice sl_tupR (pv 2) po_none (po_some (pv 5))) (pe_tupN (pa_cons (pe_ix ix_list (pv 8) (pe_call (G__law_draw) (hr.mono (by omega)) rfl T.m__law_draw T.F__law_draw.kp T.b__law_draw .nil pass0 (pa_cons (pv 0) (pa_cons pe_int pa_nil))) (fun _ _ => rfl)) pa_nil))) (pe_slice sl_tupR (pv 2) (po_some (pe_op op_add (pv 5) pe_int)) po_none)) pa_nil))))))))))))), ?_⟩
  walk_at "ws"
  refine ⟨hd, c, 9, rfl, hh, by decide, by decide, fun kind H1 k0 k1 g1 hh1 => ?_⟩
  walk_at "ws"
  refine ⟨hd, c, rfl, hh1, fun vo to_ H2 g2 hh2 ho smo => ?_⟩
  have g02 := g1.trans g2
  walk_at "ws"
  refine ⟨dp, dxs, rfl, .inr (.inl (g02.tups _ _ rd)), ?_⟩
  walk_at "ws"
  refine ⟨hd, c, (dxs.length : Int), rfl, hh2, by omega, by omega, fun x H3 x0 x1 g3 hh3 => ?_⟩
  have g03 := g02.trans g3
  have ho3 := ho.g g3 OH.s
  have rd3 := g03.tups _ _ rd
  have rw3 := g03.tups _ _ rw_
  have ad3 := ad.g g03 OH.s
  have aw3 := aw.g g03 OH.s
  clear ho g1 g2 g3 g02 hh1 hh2
  walk_at "ws"
  refine w_ite (fun e0 => ?_) (fun e0 => ?_)
  · walk_at "ws"
    refine ⟨dp, dxs, rfl, .inr (.inl rd3), fun l4 H4 hl4 g4 h4 => ?_⟩
    walk_at "ws"
    refine ⟨sz (by simp), fun p5 H5 hp5 g5 h5 => ?_⟩
    walk_at "ws"
    have g35 := (g4 none).trans (g5 none)
    refine ⟨dp, 8, dxs, rfl, rfl, .inl (g35.tups _ _ rd3), (fun e => by rw [e] at ldx; simp at ldx; omega), by decide, by decide, by omega, fun p6 H6 hp6 g6 h6 => ?_⟩
    walk_at "ws"
    have g36 := g35.trans (g6 none)
    refine ⟨dp, dxs, rfl, g36.tups _ _ rd3, fun p7 H7 g7 r7 => ?_⟩
    walk_at "ws"
    refine ⟨sz (by simp), fun l8 H8 hl8 g8 h8 => ?_⟩
    have g37 := g36.trans (g7 none)
    have g38 := g37.trans (g8 none)
    have hh8 := g38.up.hand (hd, c) rfl hh3
    have n4 : l4 ≠ hd := hh3.ne hl4
    have n8 : l8 ≠ hd := (g37.up.hand (hd, c) rfl hh3).ne hl8
    have ad8 := ad3.n g38
    obtain ⟨us, ac, sub, lus⟩ := ab_cut ad8 none (some (-1))
    have q78 := (g7 none).trans (g8 none)
    have a8 : AbAll a.c_Record hd H8 [vo, .ref l4, .ref p5, .ref p6, .ref p7] [to_, .oth, .tup [], .tup (List.replicate 8 (ds.map tgI)).flatten, .tup us] :=
      .cons (ho3.n g38) (.cons (ab_lst n4 ((((g5 none).trans (g6 none)).trans q78).all _ _ h4)) (.cons (.tup (.inl (((g6 none).trans q78).all _ _ h5)) .nil)
        (.cons (.tup (.inl (q78.all _ _ h6)) (ab_rep ad8 8)) (.cons (.tup ((g8 none).tups _ _ r7) ac) .nil))))
    have s8 : ∀ t ∈ ([to_, .oth, .tup [], .tup (List.replicate 8 (ds.map tgI)).flatten, .tup us] : List Tg), smT t = true := fun t ht => by
      simp only [List.mem_cons, List.not_mem_nil, or_false] at ht
      rcases ht with rfl | rfl | rfl | rfl | rfl
      · exact smo
      · rfl
      · rfl
      · refine smT_of ?_ fun t ht => ?_
        · simp; omega
        · obtain ⟨l, hl, hm⟩ := List.mem_flatten.mp ht
          rw [(List.mem_replicate.mp hl).2] at hm
          exact smds t hm
      · exact smT_of (by rw [List.length_map] at lus; omega) fun t ht => smds t (sub t ht)
    walk_at "ws"
    refine ⟨hd, c, 5, rfl, hh8, by decide, by decide, fun z H9 z0 z1 g9 hh9 => ?_⟩
    have h9 := g9.keep l8 _ (fun q e => by cases e; exact n8) h8
    obtain ⟨v', t', e', m', hv'⟩ := at_ab (a8.g g9 OH.s) z0 (by simpa using z1)
    refine r_ixL (SqL.of h9) e' ?_
    walk_at "ws"
    refine ⟨sz (by simp), fun q HA hq gA hA => ?_⟩
    have g0A := (g03.trans (g38.up.trans g9)).trans (gA _)
    exact k q _ _ _ _ HA g0A ((gA none).up.hand (hd, c) rfl hh9) (.inl hA) (hw.g g0A OH.s) (hv'.n (gA none)) (s8 t' m')
  walk_at "ws"
  refine w_ite (fun e1 => ?_) (fun e1 => ?_)
  · walk_at "ws"
    refine ⟨wp, wxs, rfl, .inr (.inl rw3), fun l4 H4 hl4 g4 h4 => ?_⟩
    walk_at "ws"
    refine ⟨sz (by simp), fun p5 H5 hp5 g5 h5 => ?_⟩
    walk_at "ws"
    refine ⟨p5, 31, [.int 0], rfl, rfl, SqT.of h5, by simp, by decide, by decide, by simp, fun p6 H6 hp6 g6 h6 => ?_⟩
    walk_at "ws"
    have g36 := ((g4 none).trans (g5 none)).trans (g6 none)
    refine ⟨sz (by simp), fun p7 H7 hp7 g7 h7 => ?_⟩
    have g37 := g36.trans (g7 none)
    refine ⟨wp, p7, wxs, [.int 0], rfl, rfl, g37.tups _ _ rw3, .inl h7, by simp; omega, fun p8 H8 g8 r8 => ?_⟩
    walk_at "ws"
    have g38 := g37.trans (g8 none)
    refine ⟨wp, wxs, rfl, g38.tups _ _ rw3, fun p9 H9 g9 r9 => ?_⟩
    walk_at "ws"
    refine ⟨sz (by simp), fun lA HA hlA gA hA => ?_⟩
    have g39 := g38.trans (g9 none)
    have g3A := g39.trans (gA none)
    have hhA := g3A.up.hand (hd, c) rfl hh3
    have n4 : l4 ≠ hd := hh3.ne hl4
    have nA : lA ≠ hd := (g39.up.hand (hd, c) rfl hh3).ne hlA
    have awA := aw3.n g3A
    obtain ⟨us, ac, _, _⟩ := ab_cut awA none (some (-1))
    have q9A := (g9 none).trans (gA none)
    have q8A := (g8 none).trans q9A
    have q6A := (g7 none).trans q8A
    have a0 : AbAll a.c_Record hd HA [.int 0] [.int 0] := .cons (.int 0) .nil
    have aA : AbAll a.c_Record hd HA [vo, .ref l4, .ref p6, .ref p8, .ref p9] [to_, .oth, .tup (List.replicate 31 [.int 0]).flatten, .tup (ws.map Tg.int ++ [.int 0]), .tup us] :=
      .cons (ho3.n g3A) (.cons (ab_lst n4 ((((g5 none).trans (g6 none)).trans q6A).all _ _ h4)) (.cons (.tup (.inl (q6A.all _ _ h6)) (ab_rep a0 31))
        (.cons (.tup (q9A.tups _ _ r8) (awA.app a0)) (.cons (.tup ((gA none).tups _ _ r9) ac) .nil))))
    walk_at "ws"
    refine ⟨hd, c, 5, rfl, hhA, by decide, by decide, fun z HB z0 z1 gB hhB => ?_⟩
    have hB := gB.keep lA _ (fun q e => by cases e; exact nA) hA
    obtain ⟨v', t', e', m', hv'⟩ := at_ab (aA.g gB OH.s) z0 (by simpa using z1)
    refine r_ixL (SqL.of hB) e' ?_
    walk_at "ws"
    refine ⟨sz (by simp), fun q HC hq gC hC => ?_⟩
    have g0C := (g03.trans (g3A.up.trans gB)).trans (gC _)
    exact k q _ _ _ _ HC g0C ((gC none).up.hand (hd, c) rfl hhB) (.inl hC) (hv'.n (gC none)) (hdd.g g0C OH.s) smD
  walk_at "wn"
  dsimp only
  refine w_seqM (fun σ H' => σ = [some (.ref hd), some (.ref wp), some (.ref dp), some (.int kind), some vo, some (.int x), none, none, none] ∧ H' = H3) (fun N kN => ?_) ?_
  · walk_at "ws"
    refine w_ite (fun e2 => ?_) (fun e2 => ?_)
    · walk_at "ws"
      refine ⟨wp, wxs, rfl, .inr (.inl rw3), ?_⟩
      walk_at "ws"
      refine w_ite (fun e3 => ?_) (fun e3 => ?_)
      · have e3 : 0 < wxs.length := by simpa using e3
        walk_at "ws"
        refine ⟨wp, wxs, rfl, .inr (.inl rw3), ?_⟩
        walk_at "ws"
        refine ⟨hd, c, (wxs.length : Int), rfl, hh3, by omega, by omega, fun at_ H4 a0 a1 g4 hh4 => ?_⟩
        walk_at "ws"
        refine ⟨wp, wxs, rfl, g4.tups _ _ rw3, fun p5 H5 g5 r5 => ?_⟩
        walk_at "ws"
        have g35 := g4.trans (g5 _)
        refine ⟨dp, dxs, rfl, .inr (.inl (g35.tups _ _ rd3)), ?_⟩
        walk_at "ws"
        refine ⟨sz (by simp), fun l6 H6 hl6 g6 h6 => ?_⟩
        have hh5 := (g5 none).up.hand (hd, c) rfl hh4
        have hh6 := (g6 none).up.hand (hd, c) rfl hh5
        have n6 : l6 ≠ hd := hh5.ne hl6
        have g36 := g35.trans (g6 _)
        walk_at "ws"
        refine ⟨hd, c, 3, rfl, hh6, by decide, by decide, fun z H7 z0 z1 g7 hh7 => ?_⟩
        have g37 := g36.trans g7
        have h7 := g7.keep l6 _ (fun q e => by cases e; exact n6) h6
        have a6 : AbAll a.c_Record hd H7 [vo, .int dxs.length, .int x] [to_, .int dxs.length, .int x] := .cons (ho3.g g37 OH.s) (.cons (.int _) (.cons (.int _) .nil))
        obtain ⟨v', t', e', m', hv'⟩ := at_ab a6 z0 (by simpa using z1)
        refine r_ixL (SqL.of h7) e' ?_
        walk_at "ws"
        refine ⟨sz (by simp), fun p8 H8 hp8 g8 h8 => ?_⟩
        have c1 := cut_le wxs none (some at_)
        refine ⟨p5, p8, _, [v'], rfl, rfl, (g8 none).tups _ _ (g7.tups _ _ ((g6 none).tups _ _ r5)), .inl h8, by simp; omega, fun p9 H9 g9 r9 => ?_⟩
        walk_at "ws"
        have g39 := (g37.trans (g8 _)).trans (g9 _)
        refine ⟨wp, wxs, rfl, g39.tups _ _ rw3, fun pA HA gA rA => ?_⟩
        have c2 := cut_le wxs (some (at_ + 1)) none
        refine ⟨p9, pA, _, _, rfl, rfl, (gA none).tups _ _ r9, rA, by simp only [List.length_append, List.length_singleton]; omega, fun pB HB gB rB => ?_⟩
        walk_at "ws"
        refine ⟨sz (by simp), fun q HC hq gC hC => ?_⟩
        have g7C := ((((g8 none).trans (g9 none)).trans (gA none)).trans (gB none)).trans (gC none)
        have g3C := g37.trans g7C.up
        have g0C := g03.trans g3C
        obtain ⟨u1, b1, _, _⟩ := ab_cut (aw3.g g3C OH.s) none (some at_)
        obtain ⟨u2, b2, _, _⟩ := ab_cut (aw3.g g3C OH.s) (some (at_ + 1)) none
        exact k q _ _ _ _ HC g0C (g7C.up.hand (hd, c) rfl hh7) (.inl hC) (.tup ((gC none).tups _ _ rB) ((b1.app (.cons (hv'.n g7C) .nil)).app b2)) (hdd.g g0C OH.s) smD
      · walk_at "ws"
        exact kN _ _ ⟨rfl, rfl⟩
    · walk_at "ws"
      exact kN _ _ ⟨rfl, rfl⟩
  rintro σ H4 ⟨rfl, rfl⟩
  have lx : x.toNat < ds.length := by omega
  obtain ⟨d, hdx⟩ : ∃ d, ds[x.toNat]? = some d := ⟨_, List.getElem?_eq_getElem lx⟩
  obtain ⟨vq, hvq, haq⟩ := ad3.get' (i := x.toNat) (t := tgI d) (by rw [List.getElem?_map, hdx]; rfl)
  have dm := List.mem_of_getElem? hdx
  have dl := diary_len (rec.nd d dm) (rec.rng d dm)
  cases haq with
  | @tup ow oxs _ ro ao =>
  have lo : oxs.length = d.length := by rw [ao.length, List.length_map]
  walk_at "ws"
  refine r_ixT (.inl rd3) (v := .ref ow) (at_of (j := x.toNat) (by omega) hvq) ?_
  walk_at "ws"
  refine ⟨ow, oxs, rfl, .inr (.inl ro), fun l5 H5 hl5 g5 h5 => ?_⟩
  walk_at "ws"
  refine ⟨sz (by simp), fun p6 H6 hp6 g6 h6 => ?_⟩
  have v6 := (g5 none).trans (g6 none)
  refine ⟨ow, p6, oxs, [vo], rfl, rfl, v6.tups _ _ ro, .inl h6, by simp; omega, fun p7 H7 g7 r7 => ?_⟩
  walk_at "ws"
  have v7 := v6.trans (g7 none)
  refine ⟨ow, oxs, rfl, v7.tups _ _ ro, fun p8 H8 g8 r8 => ?_⟩
  have c8 := cut_le oxs (some (-1)) none
  have v8 := v7.trans (g8 none)
  refine ⟨ow, p8, oxs, _, rfl, rfl, v8.tups _ _ ro, r8, by omega, fun p9 H9 g9 r9 => ?_⟩
  walk_at "ws"
  have v9 := v8.trans (g9 none)
  refine ⟨ow, oxs, rfl, v9.tups _ _ ro, fun pA HA gA rA => ?_⟩
  walk_at "ws"
  have vA := v9.trans (gA none)
  refine w_revT ?_
  walk_at "ws"
  refine ⟨ow, oxs, rfl, .inl (vA.tups _ _ ro), fun pB HB hpB gB hB => ?_⟩
  walk_at "ws"
  have vB := vA.trans (gB none)
  refine ⟨wp, wxs, rfl, .inr (.inl (vB.tups _ _ rw3)), ?_⟩
  walk_at "ws"
  refine ⟨sz (by simp), fun pC HC hpC gC hC => ?_⟩
  have vC := vB.trans (gC none)
  refine ⟨ow, pC, oxs, [.int wxs.length], rfl, rfl, vC.tups _ _ ro, .inl hC, by simp; omega, fun pD HD gD rD => ?_⟩
  walk_at "ws"
  have vD := vC.trans (gD none)
  refine ⟨sz (by simp), fun pE HE hpE gE hE => ?_⟩
  walk_at "ws"
  have vE := vD.trans (gE none)
  refine ⟨ow, oxs, rfl, vE.tups _ _ ro, fun pF HF gF rF => ?_⟩
  walk_at "ws"
  have vF := vE.trans (gF none)
  refine ⟨sz (by simp), fun lG HG hlG gG hG => ?_⟩
  have vG := vF.trans (gG none)
  have qF := gG none
  have qE := (gF none).trans qF
  have qD := (gE none).trans qE
  have qB := ((gC none).trans (gD none)).trans qD
  have qA := (gB none).trans qB
  have q9 := (gA none).trans qA
  have q7 := ((g8 none).trans (g9 none)).trans q9
  have q5 := ((g6 none).trans (g7 none)).trans q7
  have n5 : l5 ≠ hd := hh3.ne hl5
  have nG : lG ≠ hd := (vF.up.hand (hd, c) rfl hh3).ne hlG
  have aoG := ao.n vG
  obtain ⟨u1, c1, s1, k1⟩ := ab_cut aoG (some (-1)) none
  obtain ⟨u2, c2, s2, k2⟩ := ab_cut aoG (some 1) none
  obtain ⟨u3, c3, s3, k3⟩ := ab_cut aoG none (some (-1))
  have c4 := ab_pick aoG (fun (k : Nat) => (((oxs.length : Int) - 1) + (k : Int) * (-1)).toNat) (List.range oxs.length)
  obtain ⟨u4, e4⟩ : ∃ u4, u4 = (List.range oxs.length).filterMap fun (k : Nat) => (d.map Tg.int)[(((oxs.length : Int) - 1) + (k : Int) * (-1)).toNat]? := ⟨_, rfl⟩
  rw [← e4] at c4
  have k4 : u4.length ≤ d.length := by
    rw [e4]
    have := pick_le (fun (k : Nat) => (d.map Tg.int)[(((oxs.length : Int) - 1) + (k : Int) * (-1)).toNat]?) (List.range oxs.length)
    rw [List.length_range] at this
    omega
  have s4 : ∀ t ∈ u4, smT t = true := fun t ht => by
    rw [e4] at ht
    obtain ⟨j, _, hj⟩ := List.mem_filterMap.mp ht
    exact sm_ints t (List.mem_of_getElem? hj)
  have hoG := ho3.n vG
  rw [List.length_map] at k1 k2 k3
  have aG : AbAll a.c_Record hd HG [vo, .ref l5, .ref p7, .ref p9, .ref pA, .ref pB, .ref pD, .ref pE, .ref pF] [to_, .oth, .tup (d.map Tg.int ++ [to_]), .tup (d.map Tg.int ++ u1), .tup u2, .tup u4, .tup (d.map Tg.int ++ [.int wxs.length]), .tup [], .tup u3] :=
    .cons hoG (.cons (ab_lst n5 (q5.all _ _ h5)) (.cons (.tup (q7.tups _ _ r7) (aoG.app (.cons hoG .nil))) (.cons (.tup (q9.tups _ _ r9) (aoG.app c1)) (.cons (.tup (qA.tups _ _ rA) c2)
      (.cons (.tup (.inl (qB.all _ _ hB)) c4) (.cons (.tup (qD.tups _ _ rD) (aoG.app (.cons (.int _) .nil))) (.cons (.tup (.inl (qE.all _ _ hE)) .nil) (.cons (.tup (qF.tups _ _ rF) c3) .nil))))))))
  have sG : ∀ t ∈ ([to_, .oth, .tup (d.map Tg.int ++ [to_]), .tup (d.map Tg.int ++ u1), .tup u2, .tup u4, .tup (d.map Tg.int ++ [.int wxs.length]), .tup [], .tup u3] : List Tg), smT t = true := fun t ht => by
    simp only [List.mem_cons, List.not_mem_nil, or_false] at ht
    rcases ht with rfl | rfl | rfl | rfl | rfl | rfl | rfl | rfl | rfl
    · exact smo
    · rfl
    · exact smT_of (by simp; omega) (sm_app sm_ints (sm_one smo))
    · exact smT_of (by simp; omega) (sm_app sm_ints fun t ht => sm_ints t (s1 t ht))
    · exact smT_of (by omega) fun t ht => sm_ints t (s2 t ht)
    · exact smT_of (by omega) s4
    · exact smT_of (by simp; omega) (sm_app sm_ints (sm_one rfl))
    · rfl
    · exact smT_of (by omega) fun t ht => sm_ints t (s3 t ht)
  obtain ⟨L, eL⟩ : ∃ L : List V, L = [vo, .ref l5, .ref p7, .ref p9, .ref pA, .ref pB, .ref pD, .ref pE, .ref pF] := ⟨_, rfl⟩
  obtain ⟨S, eS⟩ : ∃ S : List Tg, S = [to_, .oth, .tup (d.map Tg.int ++ [to_]), .tup (d.map Tg.int ++ u1), .tup u2, .tup u4, .tup (d.map Tg.int ++ [.int wxs.length]), .tup [], .tup u3] := ⟨_, rfl⟩
  rw [← eL] at aG hG
  rw [← eS] at aG sG
  have l9 : L.length = 9 := by rw [eL]; rfl
  have hhG := vG.up.hand (hd, c) rfl hh3
  clear eL eS c1 c2 c3 c4 e4 s1 s2 s3 s4 aoG hoG qF qE qD qB qA q9 q7 q5 h5 h6 r7 r8 r9 rA hB hC rD hE rF
  walk_at "ws"
  refine ⟨dp, dxs, rfl, vG.tups _ _ rd3, fun pa Ha ga ra => ?_⟩
  walk_at "ws"
  have hha := (ga none).up.hand (hd, c) rfl hhG
  refine ⟨hd, c, 9, rfl, hha, by decide, by decide, fun z Hb z0 z1 gb hhb => ?_⟩
  have gab := (ga (some (hd, c))).trans gb
  obtain ⟨v', t', e', m', hv'⟩ := at_ab (aG.g gab OH.s) z0 (by rw [l9]; exact z1)
  refine r_ixL (SqL.of (gb.keep lG _ (fun q e => by cases e; exact nG) ((ga none).all _ _ hG))) e' ?_
  walk_at "ws"
  refine ⟨sz (by simp), fun pc Hc hpc gc hc => ?_⟩
  have c1 := cut_le dxs none (some x)
  refine ⟨pa, pc, _, [v'], rfl, rfl, (gc none).tups _ _ (gb.tups _ _ ra), .inl hc, by simp; omega, fun pd Hd gd rd' => ?_⟩
  walk_at "ws"
  have gad := (vG.up.trans gab).trans ((gc _).trans (gd _))
  refine ⟨dp, dxs, rfl, gad.tups _ _ rd3, fun pe He ge re => ?_⟩
  have c2 := cut_le dxs (some (x + 1)) none
  refine ⟨pd, pe, _, _, rfl, rfl, (ge none).tups _ _ rd', re, by simp only [List.length_append, List.length_singleton]; omega, fun pf Hf gf rf' => ?_⟩
  walk_at "ws"
  refine ⟨sz (by simp), fun q Hg hq gg hg => ?_⟩
  have gbg := ((((gc none).trans (gd none)).trans (ge none)).trans (gf none)).trans (gg none)
  have g3g := (vG.up.trans gab).trans gbg.up
  have g0g := g03.trans g3g
  obtain ⟨w1, b1, t1, j1⟩ := ab_cut (ad3.g g3g OH.s) none (some x)
  obtain ⟨w2, b2, t2, j2⟩ := ab_cut (ad3.g g3g OH.s) (some (x + 1)) none
  rw [List.length_map] at j1 j2
  exact k q _ _ _ _ Hg g0g (gbg.up.hand (hd, c) rfl hhb) (.inl hg) (hw.g g0g OH.s) (.tup ((gg none).tups _ _ rf') ((b1.app (.cons (hv'.n gbg) .nil)).app b2))
    (smT_of (by simp; omega) (sm_app (sm_app (fun t ht => smds t (t1 t ht)) (sm_one (sG t' m'))) (fun t ht => smds t (t2 t ht))))

end
end Mine
/-! ## K15 -/


namespace Mine
section
variable {P : Program} {w : World} {K : PySem.W.Frag} {mg : Str → Option Value} {base : Heap} {a : Ads}

/-! ### the law -/
theorem tsz_len {lo hi : Int} {ts : List Tg} (h1 : lo ≤ ts.length) (h2 : (ts.length : Int) ≤ hi) : tsz lo hi (.tup ts) = true := by
  show (decide (lo ≤ ts.length) && decide ((ts.length : Int) ≤ hi)) = true
  rw [decide_eq_true h1, decide_eq_true h2]; rfl
theorem due_rec {ws : List Int} {ds : List (List Int)} (h : IsRec ws ds) : due (tgI ws) (tgDD ds) = none := by
  have m1 := h.m1
  have m7 := h.m7
  have p30 := h.p30
  refine due_6 (tsz_len (by rw [List.length_map]; omega) (by rw [List.length_map]; omega)) (tsz_len (by omega) (by rw [List.length_map]; omega)) (fw_none fun j hj => ?_) (fw_none fun j hj => ?_) (fw_none fun j hj => ?_)
  · rw [List.length_map] at hj
    unfold okW
    rw [getD_of (by rw [List.getElem?_map, List.getElem?_eq_getElem hj]; rfl : (ws.map Tg.int)[j]? = some (.int ws[j]))]
    have := h.wr _ (List.getElem_mem hj)
    show (decide (0 ≤ ws[j]) && decide (ws[j] < (ds.map tgI).length)) = true
    rw [List.length_map, decide_eq_true this.1, decide_eq_true this.2]; rfl
  · rw [List.length_map] at hj
    unfold okD
    rw [getD_of (by rw [List.getElem?_map, List.getElem?_eq_getElem hj]; rfl : (ds.map tgI)[j]? = some (tgI ds[j]))]
    have dm := List.getElem_mem hj
    show ((ds[j].map Tg.int).all (blw (ws.map Tg.int).length) && decide (tgInts (ds[j].map Tg.int)).Nodup) = true
    rw [ints_map, decide_eq_true (h.nd _ dm), Bool.and_true, List.all_eq_true, List.length_map]
    intro t ht
    obtain ⟨i, hi, rfl⟩ := List.mem_map.mp ht
    have := h.rng _ dm i hi
    show (decide (0 ≤ i) && decide (i < (ws.length : Int))) = true
    rw [decide_eq_true this.1, decide_eq_true this.2]; rfl
  · rw [List.length_map] at hj
    unfold okP
    rw [getD_of (by rw [List.getElem?_map, List.getElem?_eq_getElem hj]; rfl : (ws.map Tg.int)[j]? = some (.int ws[j]))]
    have hw := h.wr _ (List.getElem_mem hj)
    have hx : ws[j].toNat < ds.length := by omega
    show decide ((j : Int) ∈ tgInts (itemsT ((ds.map tgI).getD ws[j].toNat .non))) = true
    rw [getD_of (by rw [List.getElem?_map, List.getElem?_eq_getElem hx]; rfl : (ds.map tgI)[ws[j].toNat]? = some (tgI ds[ws[j].toNat]))]
    show decide ((j : Int) ∈ tgInts (ds[ws[j].toNat].map Tg.int)) = true
    rw [ints_map, decide_eq_true (h.own j ws[j] _ (List.getElem?_eq_getElem hj) (List.getElem?_eq_getElem hx))]
theorem due_none {tw td : Tg} (h : due tw td = none) : ∃ ws ds, tw = tgI ws ∧ td = tgDD ds := by
  by_cases e1 : tsz 1 7 td = true
  · by_cases e2 : tsz 0 30 tw = true
    · cases td with
      | tup dts =>
        cases tw with
        | tup wts =>
          cases f3 : fw (okW dts.length wts) wts.length with
          | some i => rw [due_3 e1 e2 f3] at h; cases h
          | none =>
            cases f4 : fw (okD wts.length dts) dts.length with
            | some i => rw [due_4 e1 e2 f3 f4] at h; cases h
            | none =>
              have a3 : wts.all (blw dts.length) = true := List.all_eq_true.mpr fun t ht => by
                obtain ⟨i, hi, rfl⟩ := List.getElem_of_mem ht
                have := fw_all f3 i hi
                unfold okW at this
                rw [getD_of (List.getElem?_eq_getElem hi)] at this
                exact this
              have a4 : ∀ t ∈ dts, ∃ d, t = tgI d := fun t ht => by
                obtain ⟨i, hi, rfl⟩ := List.getElem_of_mem ht
                have := fw_all f4 i hi
                unfold okD at this
                rw [getD_of (List.getElem?_eq_getElem hi)] at this
                cases q : dts[i] with
                | tup us =>
                  rw [q] at this
                  have this : (us.all (blw wts.length) && decide (tgInts us).Nodup) = true := this
                  rw [Bool.and_eq_true] at this
                  exact ⟨tgInts us, by unfold tgI; rw [← all_ints this.1]⟩
                | non => rw [q] at this; cases this
                | bl _ => rw [q] at this; cases this
                | int _ => rw [q] at this; cases this
                | str _ => rw [q] at this; cases this
                | oth => rw [q] at this; cases this
              have ew := all_ints a3
              have ed : ∃ ds : List (List Int), dts = ds.map tgI := by
                clear h e1 f3 f4 a3 ew
                induction dts with
                | nil => exact ⟨[], rfl⟩
                | cons t ts ih =>
                  obtain ⟨u, rfl⟩ := a4 t List.mem_cons_self
                  obtain ⟨us, rfl⟩ := ih fun t ht => a4 t (List.mem_cons_of_mem _ ht)
                  exact ⟨u :: us, rfl⟩
              obtain ⟨ds, rfl⟩ := ed
              exact ⟨tgInts wts, ds, by unfold tgI; rw [← ew], rfl⟩
        | non => cases e2
        | bl _ => cases e2
        | int _ => cases e2
        | str _ => cases e2
        | oth => cases e2
      | non => cases e1
      | bl _ => cases e1
      | int _ => cases e1
      | str _ => cases e1
      | oth => cases e1
    · rw [due_2 e1 (Bool.eq_false_iff.mpr e2)] at h; cases h
  · rw [due_1 (Bool.eq_false_iff.mpr e1)] at h; cases h
theorem due_str {tw td : Tg} {e : Str × Int} (h : due tw td = some e) : PyData.strOk e.1 = true := by
  have k : ∀ (s : Str) (i : Int), PyData.strOk s = true → some (s, i) = some e → PyData.strOk e.1 = true := fun s i hs z => by cases z; exact hs
  unfold due at h
  split at h
  · split at h
    · split at h
      · exact k _ _ (by decide +kernel) h
      · split at h
        · exact k _ _ (by decide +kernel) h
        · split at h
          · exact k _ _ (by decide +kernel) h
          · cases h
    · exact k _ _ (by decide +kernel) h
  · exact k _ _ (by decide +kernel) h
def dueD : Option (Str × Int) → PyData
  | none => .none
  | some e => .tuple [.str e.1, .int e.2]
theorem dueV_dp {H : Hp} {v : V} {o : Option (Str × Int)} (h : DueV H v o) : Dp K H v (dueD o) := by
  cases o with
  | none => rw [show v = .non from h]; exact .non
  | some e =>
    obtain ⟨q, rfl, hq⟩ := (h : ∃ q, v = .ref q ∧ H q = some (.tup [.str e.1, .int e.2]))
    exact .tup (SqT.of hq) (.cons (.str _) (.cons (.int _) .nil))
theorem DueV.n {H H' : Hp} {v : V} {o : Option (Str × Int)} (h : DueV H v o) (g : G none H H') : DueV H' v o := by
  cases o with
  | none => exact h
  | some e =>
    obtain ⟨q, rfl, hq⟩ := (h : ∃ q, v = .ref q ∧ H q = some (.tup [.str e.1, .int e.2]))
    exact ⟨q, rfl, g.all _ _ hq⟩
theorem okd_due {tw td : Tg} : okd 3 (.list [dueD (due tw td)]) := .inr ⟨_, .inr rfl, (by simp), fun e he => by
  have e1 : e = dueD (due tw td) := by simpa using he
  rw [e1]
  cases h : due tw td with
  | none => exact .inl trivial
  | some z =>
    have hs := due_str h
    refine .inr ⟨_, .inl rfl, (by simp), fun y hy => ?_⟩
    rcases List.mem_cons.mp hy with e1 | hy
    · subst e1; exact .inl hs
    · have e1 : y = .int z.2 := by simpa using hy
      subst e1; exact .inl trivial⟩
theorem okd_rec {ws : List Int} {ds : List (List Int)} (h : IsRec ws ds) : okd 3 (.list [dI ws, dDD ds]) := by
  have m7 := h.m7
  have p30 := h.p30
  have one : ∀ {n : Nat} {d : List Int}, d.length ≤ 100000 → okd (n + 1) (dI d) := fun {n d} hz => .inr ⟨_, .inl rfl, by rw [List.length_map]; exact hz, fun z hz => by
    obtain ⟨i, _, rfl⟩ := List.mem_map.mp hz
    cases n with
    | zero => exact trivial
    | succ n => exact .inl trivial⟩
  refine .inr ⟨_, .inr rfl, (by simp), fun e he => ?_⟩
  rcases List.mem_cons.mp he with e1 | he
  · subst e1; exact one (by omega)
  · have e1 : e = dDD ds := by simpa using he
    subst e1
    refine .inr ⟨_, .inl rfl, by rw [List.length_map]; omega, fun d hd => ?_⟩
    obtain ⟨d, hq, rfl⟩ := List.mem_map.mp hd
    have := diary_len (h.nd d hq) (h.rng d hq)
    exact one (by omega)
theorem eqTs_ints : ∀ ns ms : List Int, eqTs (ns.map Tg.int) (ms.map Tg.int) = decide (ns = ms)
  | [], [] => rfl
  | [], _ :: _ => by simp [eqTs]
  | _ :: _, [] => by simp [eqTs]
  | n :: ns, m :: ms => by
    rw [List.map_cons, List.map_cons, eqTs, eqTs_ints ns ms, eqT]
    by_cases h1 : n = m <;> by_cases h2 : ns = ms <;> simp [h1, h2]
def spLaw (K : PySem.W.Frag) : Sp := fun vs H Q _ => ∃ (s : Addr) (ns : List Int), vs = [.ref s] ∧ SqL K H s (ns.map V.int) ∧ ns.length ≤ 63 ∧ ∀ H', Q (.bl true) H'
theorem ok_law (T : Txt K mg a) : FnOk P w K mg base CX0 11 a.f_law a.d_law P_law (spLaw K) := by
  refine T.F_law.ok sc_law (fun vs H Q E h => by obtain ⟨s, ns, rfl, _⟩ := h; rfl) (fun cdv A outer s0 H vs Q E hr h => ?_)
  obtain ⟨s, ns, rfl, hs, hl, k⟩ := h
  have G__law_is : FnOk P w K mg base CX0 4 a.f__law_is a.d__law_is P__law_is (sp__law_is K 3) := ok__law_is T 3
  have G_Record_init : FnOk P w K mg base (L2.CX P w) 7 a.f_Record_init a.d_Record_init P_Record_init (sp_Record_init a.c_Record a.c_BadRecord) := ok_Record_init T
  have G__law_hand : FnOk P w K mg base CX0 1 a.f__law_hand a.d__law_hand P__law_hand (sp__law_hand K) := ok__law_hand T
  have G__law_draw : FnOk P w K mg base CX0 1 a.f__law_draw a.d__law_draw P__law_draw sp__law_draw := ok__law_draw T
  have G__law_web : FnOk P w K mg base CX0 2 a.f__law_web a.d__law_web P__law_web (sp__law_web K) := ok__law_web T
  have G__law_ran : FnOk P w K mg base CX0 2 a.f__law_ran a.d__law_ran P__law_ran (sp__law_ran K a.c_Record) := ok__law_ran T
  have G__law_bent : FnOk P w K mg base CX0 10 a.f__law_bent a.d__law_bent P__law_bent (sp__law_bent a.c_Record) := ok__law_bent T
  have G__law_due : FnOk P w K mg base CX0 2 a.f__law_due a.d__law_due P__law_due (sp__law_due a.c_Record) := ok__law_due T
  have G__law_told : FnOk P w K mg base CX0 9 a.f__law_told a.d__law_told P__law_told (sp__law_told a.c_Record) := ok__law_told T
  refine ⟨_, (pss_cons (ps_set (i := 1) sc_law.nd rfl (Or.inr rfl) (pe_call (G__law_hand) (hr.mono (by omega)) rfl T.m__law_hand T.F__law_hand.kp T.b__law_hand .nil pass0 (pa_cons (pv 0) pa_nil)))
  (pss_cons (ps_for PassesOwn.never rfl (pi_range1 rfl T.n_range (pa_cons pe_int pa_nil)) (pg_name (i := 2) sc_law.nd rfl (Or.inl rfl))
    (pss_cons (ps_set (i := 3) sc_law.nd rfl (Or.inr rfl) (pe_op op_add pe_int (pe_call (G__law_draw) (hr.mono (by omega)) rfl T.m__law_draw T.F__law_draw.kp T.b__law_draw .nil pass0 (pa_cons (pv 1) (pa_cons pe_int pa_nil)))))
  (pss_cons (ps_set (i := 4) sc_law.nd rfl (Or.inl rfl) (pe_call (G__law_draw) (hr.mono (by omega)) rfl T.m__law_draw T.F__law_draw.kp T.b__law_draw .nil pass0 (pa_cons (pv 1) (pa_cons (pe_ix ix_list (pe_lstN (pa_cons pe_int (pa_cons pe_int pa_nil))) (pe_callTy call_int1 (by rfl) T.n_int (by decide +kernel) (pa_cons (pe_cmpR op_eq (pe_call (G__law_draw) (hr.mono (by omega)) rfl T.m__law_draw T.F__law_draw.kp T.b__law_draw .nil pass0 (pa_cons (pv 1) (pa_cons pe_int pa_nil))) pe_int (nomark _)) pa_nil)) (fun _ _ => rfl)) pa_nil))))
  (pss_cons (ps_set (i := 5) sc_law.nd rfl (Or.inl rfl) (pe_callTy call_tupleN (by rfl) T.n_tuple (by decide +kernel) (pa_cons (pe_lc (own := [("_law_put", 12)]) (g := (gName 12)) (tt := tYes) rfl sc_law.nd (pi_range1 rfl T.n_range (pa_cons (pv 4) pa_nil)) (blkOk_by (N := N_law) (sc := defScope s_law) (by decide +kernel)) (fun _ _ _ _ _ => (pg_name (i := 12) sc_law.nd rfl (by first | exact Or.inl rfl | exact Or.inr rfl))) (fun _ _ _ _ _ => pts_nil) (fun _ _ _ _ _ => (pe_call (G__law_draw) (hr.mono (by omega)) rfl T.m__law_draw T.F__law_draw.kp T.b__law_draw .nil pass0 (pa_cons (pv 1) (pa_cons (pv 3) pa_nil))))) pa_nil)))
  (pss_cons (ps_set (i := 6) sc_law.nd rfl (Or.inl rfl) (pe_ix ix_tup (pe_call (G__law_ran) (hr.mono (by omega)) rfl T.m__law_ran T.F__law_ran.kp T.b__law_ran .nil pass0 (pa_cons (pv 1) (pa_cons (pv 3) (pa_cons (pe_call (G__law_web) (hr.mono (by omega)) rfl T.m__law_web T.F__law_web.kp T.b__law_web .nil pass0 (pa_cons (pv 1) (pa_cons (pv 3) pa_nil))) (pa_cons (pv 5) (pa_cons (pe_call (G__law_draw) (hr.mono (by omega)) rfl T.m__law_draw T.F__law_draw.kp T.b__law_draw .nil pass0 (pa_cons (pv 1) (pa_cons pe_int pa_nil))) pa_nil)))))) pe_int (fun _ _ => rfl)))
  (pss_cons (ps_set (i := 7) sc_law.nd rfl (Or.inl rfl) (pe_make T.K_Record G_Record_init (hr.mono (by omega)) rfl T.m_Record T.b_Record_init .nil passE0 (pa_cons (pv 5) (pa_cons (pv 6) pa_nil))))
  (pss_cons (ps_if (L2.PW.pt (pw_or (pt_not (pt_val (pe_call (G__law_is) (hr.mono (by omega)) rfl T.m__law_is T.F__law_is.kp T.b__law_is .nil pass0 (pa_cons (pe_lstN (pa_cons (pe_fld (pv 7) rfl) (pa_cons (pe_fld (pv 7) rfl) pa_nil))) (pa_cons (pe_lstN (pa_cons (pv 5) (pa_cons (pv 6) pa_nil))) pa_nil))))) (pw_or1 (pt_cmpR (op_neG (ok_Record_eqA T) T.eqf_Record T.eqi_Record T.b_Record_eq pass0 T.ne_Record T.ic_Record.hm (hr.mono (by omega))) (pv 7) (pe_make T.K_Record G_Record_init (hr.mono (by omega)) rfl T.m_Record T.b_Record_init .nil passE0 (pa_cons (pv 5) (pa_cons (pv 6) pa_nil))) (nomark _)))))
    (pss_one (ps_ret pe_bl))
    pss_nil)
  (pss_cons (ps_set (i := 8) sc_law.nd rfl (Or.inl rfl) (pe_call (G__law_bent) (hr.mono (by omega)) rfl T.m__law_bent T.F__law_bent.kp T.b__law_bent .nil pass0 (pa_cons (pv 1) (pa_cons (pv 5) (pa_cons (pv 6) pa_nil)))))
  (pss_cons (ps_if (L2.PW.pt (pw_and (pt_cmpR op_eq (pe_call (G__law_draw) (hr.mono (by omega)) rfl T.m__law_draw T.F__law_draw.kp T.b__law_draw .nil pass0 (pa_cons (pv 1) (pa_cons pe_int pa_nil))) pe_int (nomark _)) (pw_and (pt_cmpR (op_eqAb' (own_eq T rfl rfl rfl rfl rfl) 1 (hr.mono (by omega))) (pe_ix ix_tup (pv 8) pe_int (fun _ _ => rfl)) (pv 5) (nomark _)) (pw_and1 (pt_val (pe_callB call_isi (by rfl) T.n_isinstance (by decide +kernel) (pa_cons (pe_ix ix_tup (pv 8) pe_int (fun _ _ => rfl)) (pa_cons (pe_bltn (v := .ty "tuple") (u := .type "tuple") rfl T.n_tuple (by decide +kernel) rfl) pa_nil))))))))
    (pss_one (ps_set (i := 8) sc_law.nd rfl (Or.inl rfl) (pe_tupN (pa_cons (pe_ix ix_tup (pe_call (G__law_bent) (hr.mono (by omega)) rfl T.m__law_bent T.F__law_bent.kp T.b__law_bent .nil pass0 (pa_cons (pv 1) (pa_cons (pv 5) (pa_cons (pv 6) pa_nil)))) pe_int (fun _ _ => rfl)) (pa_cons (pe_ix ix_tup (pv 8) pe_int (fun _ _ => rfl)) pa_nil)))))
    pss_nil)
  (pss_cons (ps_set (i := 9) sc_law.nd rfl (Or.inl rfl) (pe_call (G__law_due) (hr.mono (by omega)) rfl T.m__law_due T.F__law_due.kp T.b__law_due .nil pass0 (pa_cons (pe_ix ix_tup (pv 8) pe_int (fun _ _ => rfl)) (pa_cons (pe_ix ix_tup (pv 8) pe_int (fun _ _ => rfl)) pa_nil))))
  (pss_cons (ps_asg (pe_call (G__law_told) (hr.mono (by omega)) rfl T.m__law_told T.F__law_told.kp T.b__law_told .nil pass0 (pa_cons (pe_ix ix_tup (pv 8) pe_int (fun _ _ => rfl)) (pa_cons (pe_ix ix_tup (pv 8) pe_int (fun _ _ => rfl)) pa_nil))) (pg_tup rfl (pgs_cons (pg_name (i := 10) sc_law.nd rfl (Or.inl rfl)) (pgs_cons (pg_name (i := 11) sc_law.nd rfl (Or.inl rfl)) pgs_nil))))
  (pss_cons (ps_if (pt_not (pt_val (pe_call (G__law_is) (hr.mono (by omega)) rfl T.m__law_is T.F__law_is.kp T.b__law_is .nil pass0 (pa_cons (pe_lstN (pa_cons (pv 11) pa_nil)) (pa_cons (pe_lstN (pa_cons (pv 9) pa_nil)) pa_nil)))))
    (pss_one (ps_ret pe_bl))
    pss_nil)
  (pss_cons (ps_if (L2.PW.pt (pw_and (pt_cmp (pc_isN (pv 9))) (pw_and1 (pt_cmpR op_ne (pe_cmpR (op_eqI (E := E0) (ok_Record_eq T) T.eqf_Record T.eqi_Record T.b_Record_eq pass0 (hr.mono (by omega))) (pv 7) (pv 10) (nomark _)) (pe_and (pe_cmpR (op_eqAb' (own_eq T rfl rfl rfl rfl rfl) 1 (hr.mono (by omega))) (pe_ix ix_tup (pv 8) pe_int (fun _ _ => rfl)) (pv 5) (nomark _)) (pe_one (pe_cmpR (op_eqD hr.units) (pe_ix ix_tup (pv 8) pe_int (fun _ _ => rfl)) (pv 6) (nomark _)))) (nomark _)))))
    (pss_one (ps_ret pe_bl))
    pss_nil)
  (pss_one (ps_if (L2.PW.pt (pw_or (pt_cmpR (op_eqI (E := E0) (ok_Record_eq T) T.eqf_Record T.eqi_Record T.b_Record_eq pass0 (hr.mono (by omega))) (pv 7) (pe_tupN (pa_cons (pv 5) (pa_cons (pv 6) pa_nil))) (nomark _)) (pw_or (pt_cmpR (op_eqI (E := E0) (ok_Record_eq T) T.eqf_Record T.eqi_Record T.b_Record_eq pass0 (hr.mono (by omega))) (pv 7) (pv 6) (nomark _)) (pw_or1 (pt_cmp (pc_isN (pv 7)))))))
    (pss_one (ps_ret pe_bl))
    pss_nil)))))))))))))))
  (pss_one (ps_ret pe_bl)))), ?_⟩
  walk_at "ws"
  refine ⟨s, ns, rfl, hs, hl, fun hd c H1 g1 hh1 => ?_⟩
  walk_at "ws"
  refine i_rng1 (by decide) (by decide) ?_
  refine for_it walk_range (fun i σ H' => Hand H' hd c ∧ ∃ u2 u3 u4 u5 u6 u7 u8 u9 u10 u11 u12, σ = [some (.ref s), some (.ref hd), u2, u3, u4, u5, u6, u7, u8, u9, u10, u11, u12]) ⟨hh1, _, _, _, _, _, _, _, _, _, _, _, rfl⟩ (fun _ _ _ _ _ => trivial) ?_ ?_
  · rintro turn _ σ _ H2 ht ⟨hh2, u2, u3, u4, u5, u6, u7, u8, u9, u10, u11, u12, rfl⟩ ⟨rfl, rfl⟩
    clear g1 hh1 hs
    walk_at "ws"
    refine ⟨hd, c, 7, rfl, hh2, by decide, by decide, fun r H3 r0 r1 g3 hh3 => ?_⟩
    walk_at "ws"
    obtain ⟨m, em⟩ : ∃ m, m = 1 + r := ⟨_, rfl⟩
    rw [← em]
    have m1 : 1 ≤ m := by omega
    have m7 : m ≤ 7 := by omega
    clear em r0 r1
    refine ⟨sz (by simp), fun l4 H4 hl4 g4 h4 => ?_⟩
    have hh4 := (g4 none).up.hand (hd, c) rfl hh3
    have n4 : l4 ≠ hd := hh3.ne hl4
    walk_at "ws"
    refine ⟨hd, c, 10, rfl, hh4, by decide, by decide, fun r2 H5 s0 s1 g5 hh5 => ?_⟩
    have h5 := g5.keep l4 _ (fun q e => by cases e; exact n4) h4
    walk_at "ws"
    refine .inr ⟨_, rfl, ?_⟩
    obtain ⟨b, eb⟩ : ∃ b, b = decide (r2 = 0) := ⟨_, rfl⟩
    rw [← eb]
    obtain ⟨many, emany, q0, q1⟩ : ∃ many : Int, atI [V.int 10, V.int 31] (if b = true then 1 else 0) = some (.int many) ∧ 0 < many ∧ many ≤ 31 := by
      cases b
      · exact ⟨10, rfl, by decide, by decide⟩
      · exact ⟨31, rfl, by decide, by decide⟩
    refine r_ixL (SqL.of h5) emany ?_
    clear eb emany s0 s1
    walk_at "ws"
    refine ⟨hd, c, many, rfl, hh5, by omega, by omega, fun n H6 n0 n1 g6 hh6 => ?_⟩
    clear g3 g4 g5 g6 h4 h5 hl4 n4 hh2 hh3 hh4 hh5
    walk_at "ws"
    refine i_rng1 (by omega) (by omega) ?_
    intro D hD
    have hh6p : ∀ p, some (hd, c) = some p → Hand H6 p.1 p.2 := fun p e => by cases e; exact hh6
    refine lc_data (K := K) (o := some (hd, c)) walk_range (by omega) hD hh6p (fun i acc _ => ∃ ns : List Int, acc = ns.map PyData.int ∧ (∀ w ∈ ns, 0 ≤ w ∧ w < m) ∧ ns.length ≤ i) (fun _ _ _ _ _ h _ => h) ⟨[], rfl, (fun _ h => nomatch h), Nat.le_refl _⟩ (fun _ _ _ _ _ => trivial) ?_ ?_
    · rintro i _ acc _ H7 hi g7 ⟨ns, rfl, hns, ln⟩ ⟨rfl, rfl⟩ Qy Qn ky kn
      walk_at "ws"
      refine ⟨rfl, ?_⟩
      walk_at "ws"
      refine ⟨hd, c, m, rfl, g7.hand (hd, c) rfl hh6, by omega, by omega, fun w H8 w0 w1 g8 hh8 => ?_⟩
      refine ky _ _ _ g8 (.int w) rfl ⟨ns ++ [w], by rw [List.map_append]; rfl, fun v hv => ?_, by rw [List.length_append, List.length_singleton]; omega⟩
      rcases List.mem_append.mp hv with z | z
      · exact hns v z
      · have e : v = w := by simpa using z
        rw [e]; exact ⟨w0, w1⟩
    rintro _ xs H7 ⟨ws, rfl, hws, lw⟩ g7 hD7 hds _
    obtain rfl := DpAll.of_ints hds
    have hh7 : Hand H7 hd c := g7.hand (hd, c) rfl hh6
    walk_at "ws"
    refine ⟨D, _, rfl, .inl ⟨SqL.of hD7, fun vp H8 hvp g8 h8 => ?_⟩⟩
    have hh8 := (g8 (some (hd, c))).hand (hd, c) rfl hh7
    have hv8 : Ab a.c_Record hd H8 (.ref vp) (tgI ws) := .tup (.inl h8) (ab_ints ws)
    walk_at "ws"
    refine ⟨hd, c, m, rfl, hh8, m1, m7, fun wa bs W H9 g9 hh9 hwa tup web => ?_⟩
    walk_at "ws"
    refine ⟨hd, c, 30, rfl, hh9, by decide, by decide, fun most HA s0 s1 gA hhA => ?_⟩
    walk_at "ws"
    have g8A := g9.trans gA
    refine ⟨hd, c, m, wa, bs, W, vp, ws, most, rfl, hhA, sqT_t gA.tups hwa, tup.g gA (fun p e => by cases e; exact hh9), web, sqT_t g8A.tups (SqT.of h8), by omega, hws, s0, by omega, fun q dt st ds HB gB hhB hq hdia ld rec => ?_⟩
    refine r_ixT (SqT.of hq) (v := .ref dt) rfl ?_
    have hvB := hv8.g (g8A.trans gB) OH.s
    have dueR := due_rec rec
    have smD : smT (tgDD ds) = true := smT_of (by rw [List.length_map]; have := rec.m7; omega) (sm_items rec)
    clear hv8 h8 hvp g7 g8 g9 gA g8A gB hhA hh9 hh8 hh7 hh6 hh6p hD hD7 hds hwa tup web hq lw hws
    walk_at "ws"
    refine make_rec hvB hdia smD (fun _ x dx HC hx gC hC => ?_) (fun p y ee => by rw [dueR] at ee; cases ee)
    have hhC := (gC none).up.hand (hd, c) rfl hhB
    have hvC := hvB.n (gC none)
    have hdC := hdia.n (gC none)
    have nx : x ≠ hd := hhB.ne hx
    clear gC hhB hvB hdia hx
    walk_at "ws"
    refine r_fld hC T.cl_Record T.na_Record_writers (rf_w _ _) ?_
    walk_at "ws"
    refine r_fld hC T.cl_Record T.na_Record_diaries (rf_d _ _) ?_
    walk_at "ws"
    refine ⟨sz (by simp), fun lD HD hlD gD hD => ?_⟩
    walk_at "ws"
    refine ⟨sz (by simp), fun lE HE hlE gE hE => ?_⟩
    have gCE := (gD none).trans (gE none)
    have hvE := hvC.n gCE
    have hdE := hdC.n gCE
    refine ⟨.ref lD, .ref lE, .list [dI ws, dDD ds], rfl, okd_rec rec, .lst (SqL.of ((gE none).all _ _ hD)) (.cons (ab_dI hvE) (.cons (ab_dDD hdE) .nil)), .lst (SqL.of hE) (.cons (ab_dI hvE) (.cons (ab_dDD hdE) .nil)), fun HF gF => ?_⟩
    have gCF := gCE.trans gF
    have hF := gCF.all _ _ hC
    have hvF := hvC.n gCF
    have hdF := hdC.n gCF
    have hhF := gCF.up.hand (hd, c) rfl hhC
    clear gCE gCF gD gE gF hvE hdE hD hE hlD hlE hC hvC hdC hhC
    walk_at "ws"
    refine make_rec hvF hdF smD (fun _ xG dxG HG hxG gG hG => ?_) (fun p y ee => by rw [dueR] at ee; cases ee)
    have hGx := (gG none).all _ _ hF
    have hvG := hvF.n (gG none)
    have hdG := hdF.n (gG none)
    refine ⟨⟨x, xG, dx, dxG, _, _, rfl, rfl, hGx, hG, ws, ds, ⟨dx, _, _, hGx, ab_dI hvG, ab_dDD hdG⟩, ⟨dxG, _, _, hG, ab_dI hvG, ab_dDD hdG⟩⟩, fun HI eI => ?_⟩
    have gFI := (gG none).trans (ext_of eI)
    have hI := gFI.all _ _ hF
    have hvI := hvF.n gFI
    have hdI := hdF.n gFI
    have hhI := gFI.up.hand (hd, c) rfl hhF
    clear gFI gG eI hGx hG hvG hdG hxG hF hvF hdF hhF
    walk_at "ws"
    refine ⟨hd, c, vp, dt, ws, ds, rfl, hhI, hvI, hdI, rec, fun q wv dv tw td HJ gJ hhJ rq aw ad sm => ?_⟩
    have hJ := gJ.keep x _ (fun q e => by cases e; exact nx) hI
    have hvJ := hvI.g gJ OH.s
    have hdJ := hdI.g gJ OH.s
    clear gJ hI hvI hdI hhI
    walk_at "wn"
    dsimp only
    refine w_seqM (fun σ H' => ∃ (q : Addr) (wv dv : V) (tw td : Tg), σ = [some (.ref s), some (.ref hd), some (.int (0 + (turn : Int))), some (.int m), some (.int n), some (.ref vp), some (.ref dt), some (.ref x), some (.ref q), u9, u10, u11, u12] ∧ G (some (hd, c)) HJ H' ∧ Hand H' hd c ∧ Rd H' q (.tup [wv, dv]) ∧ Ab a.c_Record hd H' wv tw ∧ Ab a.c_Record hd H' dv td ∧ smT td = true) (fun N kN => ?_) ?_
    · walk_at "ws"
      refine ⟨hd, c, 3, rfl, hhJ, by decide, by decide, fun z HL z0 z1 gL hhL => ?_⟩
      have rqL := gL.tups _ _ rq
      have awL := aw.g gL OH.s
      have adL := ad.g gL OH.s
      walk_at "ws"
      refine w_ite (fun e1 => ?_) (fun e1 => ?_)
      · walk_at "ws"
        refine r_ixT (.inl rqL) (v := wv) rfl ?_
        walk_at "ws"
        refine ⟨hd, tw, ws.map Tg.int, awL, hvJ.g gL OH.s, pl_Is ws, fun HM gM => ?_⟩
        have hhM := gM.up.hand (hd, c) rfl hhL
        walk_at "ws"
        refine w_ite (fun e2 => ?_) (fun e2 => ?_)
        · walk_at "ws"
          refine r_ixT (.inl (gM.tups _ _ rqL)) (v := wv) rfl ?_
          walk_at "ws"
          refine ab_isi T.ik (awL.n gM) (.inr (.inr (.inr rfl))) ?_
          walk_at "ws"
          refine w_ite (fun e3 => ?_) (fun e3 => ?_)
          · walk_at "ws"
            have gJM := gL.trans gM.up
            refine ⟨hd, c, vp, dt, ws, ds, rfl, hhM, hvJ.g gJM OH.s, hdJ.g gJM OH.s, rec, fun q2 wv2 dv2 tw2 td2 HN gN hhN rq2 aw2 ad2 sm2 => ?_⟩
            walk_at "ws"
            refine r_ixT (.inl rq2) (v := wv2) rfl ?_
            walk_at "ws"
            refine r_ixT (.inl (gN.tups _ _ (gM.tups _ _ rqL))) (v := dv) rfl ?_
            walk_at "ws"
            refine ⟨sz (by simp), fun q3 HO hq3 gO hO => ?_⟩
            exact kN _ _ ⟨q3, wv2, dv, tw2, td, rfl, (gJM.trans gN).trans (gO _), (gO none).up.hand (hd, c) rfl hhN, .inl hO, aw2.n (gO none), ((adL.n gM).g gN OH.s).n (gO none), sm⟩
          · walk_at "ws"
            exact kN _ _ ⟨q, wv, dv, tw, td, rfl, gL.trans gM.up, hhM, gM.tups _ _ rqL, awL.n gM, adL.n gM, sm⟩
        · walk_at "ws"
          exact kN _ _ ⟨q, wv, dv, tw, td, rfl, gL.trans gM.up, hhM, gM.tups _ _ rqL, awL.n gM, adL.n gM, sm⟩
      · walk_at "ws"
        exact kN _ _ ⟨q, wv, dv, tw, td, rfl, gL, hhL, rqL, awL, adL, sm⟩
    clear rq aw ad sm hhJ
    rintro σ HP ⟨q, wv, dv, tw, td, rfl, gP, hhP, rq, aw, ad, sm⟩
    have hP := gP.keep x _ (fun q e => by cases e; exact nx) hJ
    have hvP := hvJ.g gP OH.s
    have hdP := hdJ.g gP OH.s
    clear gP hJ hvJ hdJ
    walk_at "ws"
    refine r_ixT (.inl rq) (v := wv) rfl ?_
    walk_at "ws"
    refine r_ixT (.inl rq) (v := dv) rfl ?_
    walk_at "ws"
    refine ⟨hd, wv, dv, tw, td, rfl, aw, ad, sm, fun vd HQ gQ hdue => ?_⟩
    have rqQ := gQ.tups _ _ rq
    walk_at "ws"
    refine r_ixT (.inl rqQ) (v := wv) rfl ?_
    walk_at "ws"
    refine r_ixT (.inl rqQ) (v := dv) rfl ?_
    walk_at "ws"
    refine ⟨hd, wv, dv, tw, td, rfl, aw.n gQ, ad.n gQ, sm, fun t made part HR gR rt hpart hmade => ?_⟩
    refine ⟨t, _, rfl, .inl rt, rfl, ?_⟩
    refine ⟨_, _, rfl, ?_⟩
    walk_at "ws"
    refine ⟨_, _, rfl, ?_⟩
    walk_at "ws"
    refine ⟨rfl, ?_⟩
    have gPR := gQ.trans gR
    have hdueR := hdue.n gR
    walk_at "ws"
    refine ⟨sz (by simp), fun l1 HS hl1 gS hS => ?_⟩
    walk_at "ws"
    refine ⟨sz (by simp), fun l2 HT hl2 gT hT => ?_⟩
    have gRT := (gS none).trans (gT none)
    refine ⟨.ref l1, .ref l2, .list [dueD (due tw td)], rfl, okd_due, .lst (SqL.of ((gT none).all _ _ hS)) (.cons (dueV_dp (hpart.n gRT)) .nil), .lst (SqL.of hT) (.cons (dueV_dp (hdueR.n gRT)) .nil), fun HU gU => ?_⟩
    have gRU := gRT.trans gU
    have gPU := gPR.trans gRU
    have hU := gPU.all _ _ hP
    have hvU := hvP.n gPU
    have hdU := hdP.n gPU
    have hhU := gPU.up.hand (hd, c) rfl hhP
    have awU := aw.n gPU
    have adU := ad.n gPU
    have rqU := gPU.tups _ _ rq
    clear gPR gRT gS gT hS hT hl1 hl2 gU
    walk_at "wn"
    dsimp only
    refine w_seqM (fun σ H' => (∃ u1 u2 u3, σ = [some (.ref s), some (.ref hd), some (.int (0 + (turn : Int))), some (.int m), some (.int n), some (.ref vp), some (.ref dt), some (.ref x), some (.ref q), u1, u2, u3, u12]) ∧ G none HU H') (fun N kN => ?_) ?_
    · walk_at "ws"
      cases ed : due tw td with
      | some e =>
        rw [ed] at hdue
        obtain ⟨q5, rfl, _⟩ := (hdue : ∃ q, vd = .ref q ∧ HQ q = some (.tup [.str e.1, .int e.2]))
        refine w_iteN (by simp) ?_
        walk_at "ws"
        exact kN _ _ ⟨⟨_, _, _, rfl⟩, G.refl⟩
      | none =>
        rw [ed] at hdue
        obtain rfl : vd = .non := hdue
        refine w_iteE (by simp) ?_
        obtain ⟨xm, dxm, rfl, hxm⟩ := hmade ed
        obtain ⟨us, es, rfl, rfl⟩ := due_none ed
        have hxU := gRU.all _ _ hxm
        walk_at "ws"
        refine ⟨x, dx, _, .ref a.c_Record, rfl, hU, ty_ins T.ic_Record hxU, by simp [PySem.W.notFirst], .inl ⟨x, xm, ws, us, ds, es, rfl, ⟨dx, _, _, hU, ab_dI hvU, ab_dDD hdU⟩, ⟨dxm, _, _, hxU, ab_dI awU, ab_dDD adU⟩, ⟨_, rfl, ?_⟩⟩⟩
        walk_at "ws"
        refine r_ixT (.inl rqU) (v := wv) rfl ?_
        walk_at "ws"
        refine ⟨hd, tgI us, ws.map Tg.int, awU, hvU, pl_Is ws, fun HV gV => ?_⟩
        have eq1 : eqT (tgI us) (.tup (ws.map Tg.int)) = decide (us = ws) := by
          show eqT (.tup (us.map Tg.int)) (.tup (ws.map Tg.int)) = _
          rw [eqT, eqTs_ints]
        rw [eq1]
        walk_at "ws"
        refine w_ite (fun e4 => ?_) (fun e4 => ?_)
        · have e4 : us = ws := by simpa using e4
          subst e4
          walk_at "ws"
          refine r_ixT (.inl (gV.tups _ _ rqU)) (v := dv) rfl ?_
          walk_at "ws"
          refine ⟨dDD es, dDD ds, ab_dDD (adU.n gV), ab_dDD (hdU.n gV), sh_dDD es, sh_dDD ds, ?_⟩
          rw [eqv_dDD, decide_eq_true (rfl : us = us), Bool.true_and]
          have ee : decide (es = ds) = decide (ds = es) := by rw [decide_eq_decide]; exact ⟨Eq.symm, Eq.symm⟩
          rw [ee]
          walk_at "ws"
          refine w_iteN (by simp) ?_
          walk_at "ws"
          exact kN _ _ ⟨⟨_, _, _, rfl⟩, gV⟩
        · have e4 : ¬ ws = us := fun z => by
            have : ¬ us = ws := by simpa using e4
            exact this z.symm
          rw [decide_eq_false e4, Bool.false_and]
          walk_at "ws"
          exact kN _ _ ⟨⟨_, _, _, rfl⟩, gV⟩
    rintro σ HW ⟨⟨w1, w2, w3, rfl⟩, gW⟩
    have hW := gW.all _ _ hU
    have hvW := hvU.n gW
    have hdW := hdU.n gW
    have hhW := gW.up.hand (hd, c) rfl hhU
    walk_at "ws"
    refine ⟨sz (by simp), fun tX HX htX gX hX => ?_⟩
    have h1 := (gX none).all _ _ hW
    refine ⟨x, dx, _, .type "tuple", rfl, h1, rd_ty (.inl hX), nf_tuple, .inr ⟨x, _, rfl, ⟨dx, _, h1⟩, .inr ⟨tX, _, rfl, .inl hX⟩, fun HY gY => ⟨false, rfl, ?_⟩⟩⟩
    have gWY := (gX none).trans gY
    have hY := gWY.all _ _ hW
    have hhY := gWY.up.hand (hd, c) rfl hhW
    obtain ⟨xsY, rxY, _⟩ := ab_tup_of (hdW.n gWY)
    walk_at "ws"
    refine ⟨x, dx, _, .type "tuple", rfl, hY, rd_ty rxY, nf_tuple, .inr ⟨x, _, rfl, ⟨dx, _, hY⟩, .inr ⟨dt, _, rfl, rxY⟩, fun HZ gZ => ⟨false, rfl, ?_⟩⟩⟩
    walk_at "ws"
    refine w_iteN (by simp) ?_
    walk_at "ws"
    exact ⟨gZ.up.hand (hd, c) rfl hhY, _, _, _, _, _, _, _, _, _, _, _, rfl⟩
  · rintro σ H2 ⟨hh2, u2, u3, u4, u5, u6, u7, u8, u9, u10, u11, u12, rfl⟩
    walk_at "ws"
    exact k _

end
end Mine
/-! ## KN -/
end
namespace Mine
open PySem L2 GA
/-- what the head finds on the heap is what the proofs lean on -/
theorem all_mk {l : PySem.W.OpenLaw} {w : World} {K : PySem.W.Frag} {h : Heap} {mg : Str → Option Value} {fa : Addr} (X : K.In h) (G : h.Ns mainGlobals mg) (hfa : mg "law" = some (.ref fa))
    {ff_BadRecord_init : Addr} {od_BadRecord_init an_BadRecord_init : Option Addr} {sl_BadRecord_init : Array (Option Value)} {oc_BadRecord_init kV_BadRecord_init dc_BadRecord_init pm_BadRecord_init cd_BadRecord_init ct_BadRecord_init : Value}
    {ff_is_integer : Addr} {od_is_integer an_is_integer : Option Addr} {sl_is_integer : Array (Option Value)} {oc_is_integer kV_is_integer dc_is_integer pm_is_integer cd_is_integer ct_is_integer : Value}
    {ff_is_between : Addr} {od_is_between an_is_between : Option Addr} {sl_is_between : Array (Option Value)} {oc_is_between kV_is_between dc_is_between pm_is_between cd_is_between ct_is_between : Value}
    {ff_is_below : Addr} {od_is_below an_is_below : Option Addr} {sl_is_below : Array (Option Value)} {oc_is_below kV_is_below dc_is_below pm_is_below cd_is_below ct_is_below : Value}
    {ff_is_tuple_of : Addr} {od_is_tuple_of an_is_tuple_of : Option Addr} {sl_is_tuple_of : Array (Option Value)} {oc_is_tuple_of kV_is_tuple_of dc_is_tuple_of pm_is_tuple_of cd_is_tuple_of ct_is_tuple_of : Value}
    {ff_are_below : Addr} {od_are_below an_are_below : Option Addr} {sl_are_below : Array (Option Value)} {oc_are_below kV_are_below dc_are_below pm_are_below cd_are_below ct_are_below : Value}
    {ff_Record_init : Addr} {od_Record_init an_Record_init : Option Addr} {sl_Record_init : Array (Option Value)} {oc_Record_init kV_Record_init dc_Record_init pm_Record_init cd_Record_init ct_Record_init : Value}
    {ff_Record_eq : Addr} {od_Record_eq an_Record_eq : Option Addr} {sl_Record_eq : Array (Option Value)} {oc_Record_eq kV_Record_eq dc_Record_eq pm_Record_eq cd_Record_eq ct_Record_eq : Value}
    {ff_check_record : Addr} {od_check_record an_check_record : Option Addr} {sl_check_record : Array (Option Value)} {oc_check_record kV_check_record dc_check_record pm_check_record cd_check_record ct_check_record : Value}
    {ff_is_diary : Addr} {od_is_diary an_is_diary : Option Addr} {sl_is_diary : Array (Option Value)} {oc_is_diary kV_is_diary dc_is_diary pm_is_diary cd_is_diary ct_is_diary : Value}
    {ff__law_hand : Addr} {od__law_hand an__law_hand : Option Addr} {sl__law_hand : Array (Option Value)} {oc__law_hand kV__law_hand dc__law_hand pm__law_hand cd__law_hand ct__law_hand : Value}
    {ff__law_draw : Addr} {od__law_draw an__law_draw : Option Addr} {sl__law_draw : Array (Option Value)} {oc__law_draw kV__law_draw dc__law_draw pm__law_draw cd__law_draw ct__law_draw : Value}
    {ff__law_is : Addr} {od__law_is an__law_is : Option Addr} {sl__law_is : Array (Option Value)} {oc__law_is kV__law_is dc__law_is pm__law_is cd__law_is ct__law_is : Value}
    {ff__law_deep : Addr} {od__law_deep an__law_deep : Option Addr} {sl__law_deep : Array (Option Value)} {oc__law_deep kV__law_deep dc__law_deep pm__law_deep cd__law_deep ct__law_deep : Value}
    {ff__law_web : Addr} {od__law_web an__law_web : Option Addr} {sl__law_web : Array (Option Value)} {oc__law_web kV__law_web dc__law_web pm__law_web cd__law_web ct__law_web : Value}
    {ff__law_ran : Addr} {od__law_ran an__law_ran : Option Addr} {sl__law_ran : Array (Option Value)} {oc__law_ran kV__law_ran dc__law_ran pm__law_ran cd__law_ran ct__law_ran : Value}
    {ff__law_is_whole : Addr} {od__law_is_whole an__law_is_whole : Option Addr} {sl__law_is_whole : Array (Option Value)} {oc__law_is_whole kV__law_is_whole dc__law_is_whole pm__law_is_whole cd__law_is_whole ct__law_is_whole : Value}
    {ff__law_is_sized : Addr} {od__law_is_sized an__law_is_sized : Option Addr} {sl__law_is_sized : Array (Option Value)} {oc__law_is_sized kV__law_is_sized dc__law_is_sized pm__law_is_sized cd__law_is_sized ct__law_is_sized : Value}
    {ff__law_due : Addr} {od__law_due an__law_due : Option Addr} {sl__law_due : Array (Option Value)} {oc__law_due kV__law_due dc__law_due pm__law_due cd__law_due ct__law_due : Value}
    {ff__law_told : Addr} {od__law_told an__law_told : Option Addr} {sl__law_told : Array (Option Value)} {oc__law_told kV__law_told dc__law_told pm__law_told cd__law_told ct__law_told : Value}
    {ff__law_odd : Addr} {od__law_odd an__law_odd : Option Addr} {sl__law_odd : Array (Option Value)} {oc__law_odd kV__law_odd dc__law_odd pm__law_odd cd__law_odd ct__law_odd : Value}
    {ff__law_bent : Addr} {od__law_bent an__law_bent : Option Addr} {sl__law_bent : Array (Option Value)} {oc__law_bent kV__law_bent dc__law_bent pm__law_bent cd__law_bent ct__law_bent : Value}
    {ff_law : Addr} {od_law an_law : Option Addr} {sl_law : Array (Option Value)} {oc_law kV_law dc_law pm_law cd_law ct_law : Value}
    {C_GrowError : Addr}
    {C_BadRecord : Addr}
    {C_Record : Addr}
    {xnm xq : Str} {xN : Addr} {xbs : List Value} {xsn : List Str} {xsub : List Value} {xab : Bool} {xcol : Option Bool} {xdd : Option Addr} {x0 x1 x2 x3 x5 : Option Value}
    {tk_MOST_MACHINES : Tok}
    {tk_MOST_PUTS : Tok}
    (aC_GrowError : PySem.W.nsIn K mainGlobals "GrowError" = some (some (.ref C_GrowError)))
    (aC_BadRecord : PySem.W.nsIn K mainGlobals "BadRecord" = some (some (.ref C_BadRecord)))
    (aC_Record : PySem.W.nsIn K mainGlobals "Record" = some (some (.ref C_Record)))
    (a_BadRecord_init : PySem.W.findIn K (.ref C_BadRecord) "__init__" = some (some (.ref ff_BadRecord_init)))
    (i_BadRecord_init : PySem.W.isFn K (.ref ff_BadRecord_init) = true)
    (l_BadRecord_init : K.lookup ff_BadRecord_init = some ⟨oc_BadRecord_init, od_BadRecord_init, .func (PySem.W.fnOf "__init__" "BadRecord.__init__" (defArgs s_BadRecord_init) (defBody s_BadRecord_init) (defScope s_BadRecord_init) .none kV_BadRecord_init dc_BadRecord_init pm_BadRecord_init an_BadRecord_init cd_BadRecord_init ct_BadRecord_init), sl_BadRecord_init⟩)
    (c_BadRecord_init : PySem.W.codeIn K cd_BadRecord_init "BadRecord.__init__" = true)
    (k_BadRecord_init : PySem.W.keepIn K (.ref ff_BadRecord_init) = true)
    (a_is_integer : PySem.W.nsIn K mainGlobals "is_integer" = some (some (.ref ff_is_integer)))
    (l_is_integer : K.lookup ff_is_integer = some ⟨oc_is_integer, od_is_integer, .func (PySem.W.fnOf "is_integer" "is_integer" (defArgs s_is_integer) (defBody s_is_integer) (defScope s_is_integer) .none kV_is_integer dc_is_integer pm_is_integer an_is_integer cd_is_integer ct_is_integer), sl_is_integer⟩)
    (c_is_integer : PySem.W.codeIn K cd_is_integer "is_integer" = true)
    (k_is_integer : PySem.W.keepIn K (.ref ff_is_integer) = true)
    (a_is_between : PySem.W.nsIn K mainGlobals "is_between" = some (some (.ref ff_is_between)))
    (l_is_between : K.lookup ff_is_between = some ⟨oc_is_between, od_is_between, .func (PySem.W.fnOf "is_between" "is_between" (defArgs s_is_between) (defBody s_is_between) (defScope s_is_between) .none kV_is_between dc_is_between pm_is_between an_is_between cd_is_between ct_is_between), sl_is_between⟩)
    (c_is_between : PySem.W.codeIn K cd_is_between "is_between" = true)
    (k_is_between : PySem.W.keepIn K (.ref ff_is_between) = true)
    (a_is_below : PySem.W.nsIn K mainGlobals "is_below" = some (some (.ref ff_is_below)))
    (l_is_below : K.lookup ff_is_below = some ⟨oc_is_below, od_is_below, .func (PySem.W.fnOf "is_below" "is_below" (defArgs s_is_below) (defBody s_is_below) (defScope s_is_below) .none kV_is_below dc_is_below pm_is_below an_is_below cd_is_below ct_is_below), sl_is_below⟩)
    (c_is_below : PySem.W.codeIn K cd_is_below "is_below" = true)
    (k_is_below : PySem.W.keepIn K (.ref ff_is_below) = true)
    (a_is_tuple_of : PySem.W.nsIn K mainGlobals "is_tuple_of" = some (some (.ref ff_is_tuple_of)))
    (l_is_tuple_of : K.lookup ff_is_tuple_of = some ⟨oc_is_tuple_of, od_is_tuple_of, .func (PySem.W.fnOf "is_tuple_of" "is_tuple_of" (defArgs s_is_tuple_of) (defBody s_is_tuple_of) (defScope s_is_tuple_of) .none kV_is_tuple_of dc_is_tuple_of pm_is_tuple_of an_is_tuple_of cd_is_tuple_of ct_is_tuple_of), sl_is_tuple_of⟩)
    (c_is_tuple_of : PySem.W.codeIn K cd_is_tuple_of "is_tuple_of" = true)
    (k_is_tuple_of : PySem.W.keepIn K (.ref ff_is_tuple_of) = true)
    (a_are_below : PySem.W.nsIn K mainGlobals "are_below" = some (some (.ref ff_are_below)))
    (l_are_below : K.lookup ff_are_below = some ⟨oc_are_below, od_are_below, .func (PySem.W.fnOf "are_below" "are_below" (defArgs s_are_below) (defBody s_are_below) (defScope s_are_below) .none kV_are_below dc_are_below pm_are_below an_are_below cd_are_below ct_are_below), sl_are_below⟩)
    (c_are_below : PySem.W.codeIn K cd_are_below "are_below" = true)
    (k_are_below : PySem.W.keepIn K (.ref ff_are_below) = true)
    (a_Record_init : PySem.W.findIn K (.ref C_Record) "__init__" = some (some (.ref ff_Record_init)))
    (i_Record_init : PySem.W.isFn K (.ref ff_Record_init) = true)
    (l_Record_init : K.lookup ff_Record_init = some ⟨oc_Record_init, od_Record_init, .func (PySem.W.fnOf "__init__" "Record.__init__" (defArgs s_Record_init) (defBody s_Record_init) (defScope s_Record_init) .none kV_Record_init dc_Record_init pm_Record_init an_Record_init cd_Record_init ct_Record_init), sl_Record_init⟩)
    (c_Record_init : PySem.W.codeIn K cd_Record_init "Record.__init__" = true)
    (k_Record_init : PySem.W.keepIn K (.ref ff_Record_init) = true)
    (a_Record_eq : PySem.W.findIn K (.ref C_Record) "__eq__" = some (some (.ref ff_Record_eq)))
    (i_Record_eq : PySem.W.isFn K (.ref ff_Record_eq) = true)
    (l_Record_eq : K.lookup ff_Record_eq = some ⟨oc_Record_eq, od_Record_eq, .func (PySem.W.fnOf "__eq__" "Record.__eq__" (defArgs s_Record_eq) (defBody s_Record_eq) (defScope s_Record_eq) .none kV_Record_eq dc_Record_eq pm_Record_eq an_Record_eq cd_Record_eq ct_Record_eq), sl_Record_eq⟩)
    (c_Record_eq : PySem.W.codeIn K cd_Record_eq "Record.__eq__" = true)
    (k_Record_eq : PySem.W.keepIn K (.ref ff_Record_eq) = true)
    (a_check_record : PySem.W.nsIn K mainGlobals "check_record" = some (some (.ref ff_check_record)))
    (l_check_record : K.lookup ff_check_record = some ⟨oc_check_record, od_check_record, .func (PySem.W.fnOf "check_record" "check_record" (defArgs s_check_record) (defBody s_check_record) (defScope s_check_record) .none kV_check_record dc_check_record pm_check_record an_check_record cd_check_record ct_check_record), sl_check_record⟩)
    (c_check_record : PySem.W.codeIn K cd_check_record "check_record" = true)
    (k_check_record : PySem.W.keepIn K (.ref ff_check_record) = true)
    (a_is_diary : PySem.W.nsIn K mainGlobals "is_diary" = some (some (.ref ff_is_diary)))
    (l_is_diary : K.lookup ff_is_diary = some ⟨oc_is_diary, od_is_diary, .func (PySem.W.fnOf "is_diary" "is_diary" (defArgs s_is_diary) (defBody s_is_diary) (defScope s_is_diary) .none kV_is_diary dc_is_diary pm_is_diary an_is_diary cd_is_diary ct_is_diary), sl_is_diary⟩)
    (c_is_diary : PySem.W.codeIn K cd_is_diary "is_diary" = true)
    (k_is_diary : PySem.W.keepIn K (.ref ff_is_diary) = true)
    (a__law_hand : PySem.W.nsIn K mainGlobals "_law_hand" = some (some (.ref ff__law_hand)))
    (l__law_hand : K.lookup ff__law_hand = some ⟨oc__law_hand, od__law_hand, .func (PySem.W.fnOf "_law_hand" "_law_hand" (defArgs s__law_hand) (defBody s__law_hand) (defScope s__law_hand) .none kV__law_hand dc__law_hand pm__law_hand an__law_hand cd__law_hand ct__law_hand), sl__law_hand⟩)
    (c__law_hand : PySem.W.codeIn K cd__law_hand "_law_hand" = true)
    (k__law_hand : PySem.W.keepIn K (.ref ff__law_hand) = true)
    (a__law_draw : PySem.W.nsIn K mainGlobals "_law_draw" = some (some (.ref ff__law_draw)))
    (l__law_draw : K.lookup ff__law_draw = some ⟨oc__law_draw, od__law_draw, .func (PySem.W.fnOf "_law_draw" "_law_draw" (defArgs s__law_draw) (defBody s__law_draw) (defScope s__law_draw) .none kV__law_draw dc__law_draw pm__law_draw an__law_draw cd__law_draw ct__law_draw), sl__law_draw⟩)
    (c__law_draw : PySem.W.codeIn K cd__law_draw "_law_draw" = true)
    (k__law_draw : PySem.W.keepIn K (.ref ff__law_draw) = true)
    (a__law_is : PySem.W.nsIn K mainGlobals "_law_is" = some (some (.ref ff__law_is)))
    (l__law_is : K.lookup ff__law_is = some ⟨oc__law_is, od__law_is, .func (PySem.W.fnOf "_law_is" "_law_is" (defArgs s__law_is) (defBody s__law_is) (defScope s__law_is) .none kV__law_is dc__law_is pm__law_is an__law_is cd__law_is ct__law_is), sl__law_is⟩)
    (c__law_is : PySem.W.codeIn K cd__law_is "_law_is" = true)
    (k__law_is : PySem.W.keepIn K (.ref ff__law_is) = true)
    (a__law_deep : PySem.W.nsIn K mainGlobals "_law_deep" = some (some (.ref ff__law_deep)))
    (l__law_deep : K.lookup ff__law_deep = some ⟨oc__law_deep, od__law_deep, .func (PySem.W.fnOf "_law_deep" "_law_deep" (defArgs s__law_deep) (defBody s__law_deep) (defScope s__law_deep) .none kV__law_deep dc__law_deep pm__law_deep an__law_deep cd__law_deep ct__law_deep), sl__law_deep⟩)
    (c__law_deep : PySem.W.codeIn K cd__law_deep "_law_deep" = true)
    (k__law_deep : PySem.W.keepIn K (.ref ff__law_deep) = true)
    (a__law_web : PySem.W.nsIn K mainGlobals "_law_web" = some (some (.ref ff__law_web)))
    (l__law_web : K.lookup ff__law_web = some ⟨oc__law_web, od__law_web, .func (PySem.W.fnOf "_law_web" "_law_web" (defArgs s__law_web) (defBody s__law_web) (defScope s__law_web) .none kV__law_web dc__law_web pm__law_web an__law_web cd__law_web ct__law_web), sl__law_web⟩)
    (c__law_web : PySem.W.codeIn K cd__law_web "_law_web" = true)
    (k__law_web : PySem.W.keepIn K (.ref ff__law_web) = true)
    (a__law_ran : PySem.W.nsIn K mainGlobals "_law_ran" = some (some (.ref ff__law_ran)))
    (l__law_ran : K.lookup ff__law_ran = some ⟨oc__law_ran, od__law_ran, .func (PySem.W.fnOf "_law_ran" "_law_ran" (defArgs s__law_ran) (defBody s__law_ran) (defScope s__law_ran) .none kV__law_ran dc__law_ran pm__law_ran an__law_ran cd__law_ran ct__law_ran), sl__law_ran⟩)
    (c__law_ran : PySem.W.codeIn K cd__law_ran "_law_ran" = true)
    (k__law_ran : PySem.W.keepIn K (.ref ff__law_ran) = true)
    (a__law_is_whole : PySem.W.nsIn K mainGlobals "_law_is_whole" = some (some (.ref ff__law_is_whole)))
    (l__law_is_whole : K.lookup ff__law_is_whole = some ⟨oc__law_is_whole, od__law_is_whole, .func (PySem.W.fnOf "_law_is_whole" "_law_is_whole" (defArgs s__law_is_whole) (defBody s__law_is_whole) (defScope s__law_is_whole) .none kV__law_is_whole dc__law_is_whole pm__law_is_whole an__law_is_whole cd__law_is_whole ct__law_is_whole), sl__law_is_whole⟩)
    (c__law_is_whole : PySem.W.codeIn K cd__law_is_whole "_law_is_whole" = true)
    (k__law_is_whole : PySem.W.keepIn K (.ref ff__law_is_whole) = true)
    (a__law_is_sized : PySem.W.nsIn K mainGlobals "_law_is_sized" = some (some (.ref ff__law_is_sized)))
    (l__law_is_sized : K.lookup ff__law_is_sized = some ⟨oc__law_is_sized, od__law_is_sized, .func (PySem.W.fnOf "_law_is_sized" "_law_is_sized" (defArgs s__law_is_sized) (defBody s__law_is_sized) (defScope s__law_is_sized) .none kV__law_is_sized dc__law_is_sized pm__law_is_sized an__law_is_sized cd__law_is_sized ct__law_is_sized), sl__law_is_sized⟩)
    (c__law_is_sized : PySem.W.codeIn K cd__law_is_sized "_law_is_sized" = true)
    (k__law_is_sized : PySem.W.keepIn K (.ref ff__law_is_sized) = true)
    (a__law_due : PySem.W.nsIn K mainGlobals "_law_due" = some (some (.ref ff__law_due)))
    (l__law_due : K.lookup ff__law_due = some ⟨oc__law_due, od__law_due, .func (PySem.W.fnOf "_law_due" "_law_due" (defArgs s__law_due) (defBody s__law_due) (defScope s__law_due) .none kV__law_due dc__law_due pm__law_due an__law_due cd__law_due ct__law_due), sl__law_due⟩)
    (c__law_due : PySem.W.codeIn K cd__law_due "_law_due" = true)
    (k__law_due : PySem.W.keepIn K (.ref ff__law_due) = true)
    (a__law_told : PySem.W.nsIn K mainGlobals "_law_told" = some (some (.ref ff__law_told)))
    (l__law_told : K.lookup ff__law_told = some ⟨oc__law_told, od__law_told, .func (PySem.W.fnOf "_law_told" "_law_told" (defArgs s__law_told) (defBody s__law_told) (defScope s__law_told) .none kV__law_told dc__law_told pm__law_told an__law_told cd__law_told ct__law_told), sl__law_told⟩)
    (c__law_told : PySem.W.codeIn K cd__law_told "_law_told" = true)
    (k__law_told : PySem.W.keepIn K (.ref ff__law_told) = true)
    (a__law_odd : PySem.W.nsIn K mainGlobals "_law_odd" = some (some (.ref ff__law_odd)))
    (l__law_odd : K.lookup ff__law_odd = some ⟨oc__law_odd, od__law_odd, .func (PySem.W.fnOf "_law_odd" "_law_odd" (defArgs s__law_odd) (defBody s__law_odd) (defScope s__law_odd) .none kV__law_odd dc__law_odd pm__law_odd an__law_odd cd__law_odd ct__law_odd), sl__law_odd⟩)
    (c__law_odd : PySem.W.codeIn K cd__law_odd "_law_odd" = true)
    (k__law_odd : PySem.W.keepIn K (.ref ff__law_odd) = true)
    (a__law_bent : PySem.W.nsIn K mainGlobals "_law_bent" = some (some (.ref ff__law_bent)))
    (l__law_bent : K.lookup ff__law_bent = some ⟨oc__law_bent, od__law_bent, .func (PySem.W.fnOf "_law_bent" "_law_bent" (defArgs s__law_bent) (defBody s__law_bent) (defScope s__law_bent) .none kV__law_bent dc__law_bent pm__law_bent an__law_bent cd__law_bent ct__law_bent), sl__law_bent⟩)
    (c__law_bent : PySem.W.codeIn K cd__law_bent "_law_bent" = true)
    (k__law_bent : PySem.W.keepIn K (.ref ff__law_bent) = true)
    (a_law : PySem.W.nsIn K mainGlobals "law" = some (some (.ref ff_law)))
    (l_law : K.lookup ff_law = some ⟨oc_law, od_law, .func (PySem.W.fnOf "law" "law" (defArgs s_law) (defBody s_law) (defScope s_law) .none kV_law dc_law pm_law an_law cd_law ct_law), sl_law⟩)
    (c_law : PySem.W.codeIn K cd_law "law" = true)
    (k_law : PySem.W.keepIn K (.ref ff_law) = true)
    (pg_Record : PySem.W.plainGet K C_Record Str.empty = true)
    (hd_Record : PySem.W.hasDictIn K C_Record = true)
    (po_Record : PySem.W.plainOver K C_Record = true)
    (sa_Record : PySem.W.findIn K (.ref C_Record) "__setattr__" = some (some (.builtin "object.__setattr__")))
    (mk_Record : PySem.W.makesIn K C_Record = true)
    (kc_Record : PySem.W.keepIn K (.ref C_Record) = true)
    (ha_Record : PySem.W.findIn K (.ref C_Record) "__class__" = some (some (.builtin "object.__class__")))
    (hn_Record : PySem.W.specialIn K (.builtin "object.__class__") "__get__" = some (some (.builtin "getset_descriptor.__get__")))
    (ht_Record : PySem.W.takesIn K (.builtin "object.__class__") = some true)
    (hm_Record : PySem.W.mroIn K C_Record (.type "object") = some true)
    (hne_Record : PySem.W.findIn K (.ref C_Record) "__ne__" = some (some (.builtin "object.__ne__")))
    (na_Record_writers : PySem.W.findIn K (.ref C_Record) "writers" = some none)
    (na_Record_diaries : PySem.W.findIn K (.ref C_Record) "diaries" = some none)
    (co_MOST_MACHINES : PySem.W.nsIn K mainGlobals "MOST_MACHINES" = some (some (.int 7 tk_MOST_MACHINES)))
    (co_MOST_PUTS : PySem.W.nsIn K mainGlobals "MOST_PUTS" = some (some (.int 30 tk_MOST_PUTS)))
    (z_isinstance : PySem.W.nsIn K mainGlobals "isinstance" = some none)
    (z_int : PySem.W.nsIn K mainGlobals "int" = some none)
    (z_bool : PySem.W.nsIn K mainGlobals "bool" = some none)
    (z_tuple : PySem.W.nsIn K mainGlobals "tuple" = some none)
    (z_len : PySem.W.nsIn K mainGlobals "len" = some none)
    (z_all : PySem.W.nsIn K mainGlobals "all" = some none)
    (z_enumerate : PySem.W.nsIn K mainGlobals "enumerate" = some none)
    (z_set : PySem.W.nsIn K mainGlobals "set" = some none)
    (z_list : PySem.W.nsIn K mainGlobals "list" = some none)
    (z_zip : PySem.W.nsIn K mainGlobals "zip" = some none)
    (z_range : PySem.W.nsIn K mainGlobals "range" = some none)
    (z_abs : PySem.W.nsIn K mainGlobals "abs" = some none)
    (z_min : PySem.W.nsIn K mainGlobals "min" = some none)
    (z_dict : PySem.W.nsIn K mainGlobals "dict" = some none)
    (z_ValueError : PySem.W.nsIn K mainGlobals "ValueError" = some none)
    (xL : K.lookup C_BadRecord = some (excClassObj xnm xq C_BadRecord xN xbs [.ref C_GrowError, .type "ValueError", .type "Exception", .type "BaseException", .type "object"] true xsn xsub xab xcol xdd x0 x1 x2 x3 x5 "ValueError.__new__"))
    (xsa : PySem.W.findIn K (.ref C_BadRecord) "__setattr__" = some (some (.builtin "object.__setattr__")))
    (xex : PySem.W.subIn K (.ref C_BadRecord) (.type "BaseException") = some true)
    (xty : PySem.W.typeIn K (.ref C_BadRecord) = some (.type "type"))
    (xk : PySem.W.keepIn K (.ref C_BadRecord) = true)
    (xti : PySem.W.typeIn K (.ref ff_BadRecord_init) = some (.type "function"))
    (xga : PySem.W.findIn K (.ref C_BadRecord) "__getattribute__" = some (some (.builtin "BaseException.__getattribute__")))
    (xgg : PySem.W.findIn K (.ref C_BadRecord) "__getattr__" = some none)
    (xhd : PySem.W.hasDictIn K C_BadRecord = true)
    (xpa : PySem.W.findIn K (.ref C_BadRecord) "part" = some none)
    (xat : PySem.W.findIn K (.ref C_BadRecord) "at" = some none)
    (xcl : PySem.W.findIn K (.ref C_BadRecord) "__class__" = some (some (.builtin "object.__class__")))
    (xcg : PySem.W.specialIn K (.builtin "object.__class__") "__get__" = some (some (.builtin "getset_descriptor.__get__")))
    (xct : PySem.W.takesIn K (.builtin "object.__class__") = some true)
    (xmo : PySem.W.mroIn K C_BadRecord (.type "object") = some true)
    (xmv : PySem.W.mroIn K C_BadRecord (.type "ValueError") = some true)
    (yex : PySem.W.subIn K (.ref C_GrowError) (.type "BaseException") = some true)
    (yhd : PySem.W.hasDictIn K C_GrowError = true)
    (yty : PySem.W.typeIn K (.ref C_GrowError) = some (.type "type"))
    (yxy : PySem.W.subIn K (.ref C_BadRecord) (.ref C_GrowError) = some true)
    (wmi : PySem.W.mroIn K C_Record (.type "int") = some false)
    (wmb : PySem.W.mroIn K C_Record (.type "bool") = some false)
    (wmt : PySem.W.mroIn K C_Record (.type "tuple") = some false)
    (wms : PySem.W.mroIn K C_Record (.type "str") = some false)
    (wty : PySem.W.typeIn K (.ref C_Record) = some (.type "type"))
    : ∃ fd : FuncData, (∀ (s : Shared) (v : Value), BindsTo s fd ⟨[v], []⟩ [("_law_script", v)]) ∧ ∀ base : Heap, K.In base → base.Ns mainGlobals mg → FnOk l.prog w K mg base CX0 11 fa fd ["_law_script"] (spLaw K) := by
  have e := hfa.symm.trans (PySem.W.mg_of X G a_law)
  cases e
  have F_BadRecord_init := fun_mk (st := s_BadRecord_init) l_BadRecord_init c_BadRecord_init k_BadRecord_init
  have b_BadRecord_init := F_BadRecord_init.binds (ps := P_BadRecord_init) fun _ _ _ _ _ _ us hl => match us, hl with | [_, _, _], _ => rfl
  have F_is_integer := fun_mk (st := s_is_integer) l_is_integer c_is_integer k_is_integer
  have b_is_integer := F_is_integer.binds (ps := P_is_integer) fun _ _ _ _ _ _ us hl => match us, hl with | [_], _ => rfl
  have F_is_between := fun_mk (st := s_is_between) l_is_between c_is_between k_is_between
  have b_is_between := F_is_between.binds (ps := P_is_between) fun _ _ _ _ _ _ us hl => match us, hl with | [_, _, _], _ => rfl
  have F_is_below := fun_mk (st := s_is_below) l_is_below c_is_below k_is_below
  have b_is_below := F_is_below.binds (ps := P_is_below) fun _ _ _ _ _ _ us hl => match us, hl with | [_, _], _ => rfl
  have F_is_tuple_of := fun_mk (st := s_is_tuple_of) l_is_tuple_of c_is_tuple_of k_is_tuple_of
  have b_is_tuple_of := F_is_tuple_of.binds (ps := P_is_tuple_of) fun _ _ _ _ _ _ us hl => match us, hl with | [_, _, _], _ => rfl
  have F_are_below := fun_mk (st := s_are_below) l_are_below c_are_below k_are_below
  have b_are_below := F_are_below.binds (ps := P_are_below) fun _ _ _ _ _ _ us hl => match us, hl with | [_, _], _ => rfl
  have F_Record_init := fun_mk (st := s_Record_init) l_Record_init c_Record_init k_Record_init
  have b_Record_init := F_Record_init.binds (ps := P_Record_init) fun _ _ _ _ _ _ us hl => match us, hl with | [_, _, _], _ => rfl
  have F_Record_eq := fun_mk (st := s_Record_eq) l_Record_eq c_Record_eq k_Record_eq
  have b_Record_eq := F_Record_eq.binds (ps := P_Record_eq) fun _ _ _ _ _ _ us hl => match us, hl with | [_, _], _ => rfl
  have F_check_record := fun_mk (st := s_check_record) l_check_record c_check_record k_check_record
  have b_check_record := F_check_record.binds (ps := P_check_record) fun _ _ _ _ _ _ us hl => match us, hl with | [_, _], _ => rfl
  have F_is_diary := fun_mk (st := s_is_diary) l_is_diary c_is_diary k_is_diary
  have b_is_diary := F_is_diary.binds (ps := P_is_diary) fun _ _ _ _ _ _ us hl => match us, hl with | [_, _], _ => rfl
  have F__law_hand := fun_mk (st := s__law_hand) l__law_hand c__law_hand k__law_hand
  have b__law_hand := F__law_hand.binds (ps := P__law_hand) fun _ _ _ _ _ _ us hl => match us, hl with | [_], _ => rfl
  have F__law_draw := fun_mk (st := s__law_draw) l__law_draw c__law_draw k__law_draw
  have b__law_draw := F__law_draw.binds (ps := P__law_draw) fun _ _ _ _ _ _ us hl => match us, hl with | [_, _], _ => rfl
  have F__law_is := fun_mk (st := s__law_is) l__law_is c__law_is k__law_is
  have b__law_is := F__law_is.binds (ps := P__law_is) fun _ _ _ _ _ _ us hl => match us, hl with | [_, _], _ => rfl
  have F__law_deep := fun_mk (st := s__law_deep) l__law_deep c__law_deep k__law_deep
  have b__law_deep := F__law_deep.binds (ps := P__law_deep) fun _ _ _ _ _ _ us hl => match us, hl with | [_], _ => rfl
  have F__law_web := fun_mk (st := s__law_web) l__law_web c__law_web k__law_web
  have b__law_web := F__law_web.binds (ps := P__law_web) fun _ _ _ _ _ _ us hl => match us, hl with | [_, _], _ => rfl
  have F__law_ran := fun_mk (st := s__law_ran) l__law_ran c__law_ran k__law_ran
  have b__law_ran := F__law_ran.binds (ps := P__law_ran) fun _ _ _ _ _ _ us hl => match us, hl with | [_, _, _, _, _], _ => rfl
  have F__law_is_whole := fun_mk (st := s__law_is_whole) l__law_is_whole c__law_is_whole k__law_is_whole
  have b__law_is_whole := F__law_is_whole.binds (ps := P__law_is_whole) fun _ _ _ _ _ _ us hl => match us, hl with | [_, _], _ => rfl
  have F__law_is_sized := fun_mk (st := s__law_is_sized) l__law_is_sized c__law_is_sized k__law_is_sized
  have b__law_is_sized := F__law_is_sized.binds (ps := P__law_is_sized) fun _ _ _ _ _ _ us hl => match us, hl with | [_, _, _], _ => rfl
  have F__law_due := fun_mk (st := s__law_due) l__law_due c__law_due k__law_due
  have b__law_due := F__law_due.binds (ps := P__law_due) fun _ _ _ _ _ _ us hl => match us, hl with | [_, _], _ => rfl
  have F__law_told := fun_mk (st := s__law_told) l__law_told c__law_told k__law_told
  have b__law_told := F__law_told.binds (ps := P__law_told) fun _ _ _ _ _ _ us hl => match us, hl with | [_, _], _ => rfl
  have F__law_odd := fun_mk (st := s__law_odd) l__law_odd c__law_odd k__law_odd
  have b__law_odd := F__law_odd.binds (ps := P__law_odd) fun _ _ _ _ _ _ us hl => match us, hl with | [_], _ => rfl
  have F__law_bent := fun_mk (st := s__law_bent) l__law_bent c__law_bent k__law_bent
  have b__law_bent := F__law_bent.binds (ps := P__law_bent) fun _ _ _ _ _ _ us hl => match us, hl with | [_, _, _], _ => rfl
  have F_law := fun_mk (st := s_law) l_law c_law k_law
  have b_law := F_law.binds (ps := P_law) fun _ _ _ _ _ _ us hl => match us, hl with | [_], _ => rfl
  have T : Txt K mg ⟨ff_BadRecord_init, _, ff_is_integer, _, ff_is_between, _, ff_is_below, _, ff_is_tuple_of, _, ff_are_below, _, ff_Record_init, _, ff_Record_eq, _, ff_check_record, _, ff_is_diary, _, ff__law_hand, _, ff__law_draw, _, ff__law_is, _, ff__law_deep, _, ff__law_web, _, ff__law_ran, _, ff__law_is_whole, _, ff__law_is_sized, _, ff__law_due, _, ff__law_told, _, ff__law_odd, _, ff__law_bent, _, fa, _, C_GrowError, C_BadRecord, C_Record, tk_MOST_MACHINES, tk_MOST_PUTS⟩ := ⟨F_BadRecord_init,
    b_BadRecord_init,
    F_is_integer,
    b_is_integer,
    PySem.W.mg_of X G a_is_integer,
    F_is_between,
    b_is_between,
    PySem.W.mg_of X G a_is_between,
    F_is_below,
    b_is_below,
    PySem.W.mg_of X G a_is_below,
    F_is_tuple_of,
    b_is_tuple_of,
    PySem.W.mg_of X G a_is_tuple_of,
    F_are_below,
    b_are_below,
    PySem.W.mg_of X G a_are_below,
    F_Record_init,
    b_Record_init,
    F_Record_eq,
    b_Record_eq,
    F_check_record,
    b_check_record,
    PySem.W.mg_of X G a_check_record,
    F_is_diary,
    b_is_diary,
    PySem.W.mg_of X G a_is_diary,
    F__law_hand,
    b__law_hand,
    PySem.W.mg_of X G a__law_hand,
    F__law_draw,
    b__law_draw,
    PySem.W.mg_of X G a__law_draw,
    F__law_is,
    b__law_is,
    PySem.W.mg_of X G a__law_is,
    F__law_deep,
    b__law_deep,
    PySem.W.mg_of X G a__law_deep,
    F__law_web,
    b__law_web,
    PySem.W.mg_of X G a__law_web,
    F__law_ran,
    b__law_ran,
    PySem.W.mg_of X G a__law_ran,
    F__law_is_whole,
    b__law_is_whole,
    PySem.W.mg_of X G a__law_is_whole,
    F__law_is_sized,
    b__law_is_sized,
    PySem.W.mg_of X G a__law_is_sized,
    F__law_due,
    b__law_due,
    PySem.W.mg_of X G a__law_due,
    F__law_told,
    b__law_told,
    PySem.W.mg_of X G a__law_told,
    F__law_odd,
    b__law_odd,
    PySem.W.mg_of X G a__law_odd,
    F__law_bent,
    b__law_bent,
    PySem.W.mg_of X G a__law_bent,
    F_law,
    b_law,
    PySem.W.mg_of X G a_law,
    PySem.W.mg_of X G aC_GrowError,
    PySem.W.mg_of X G aC_BadRecord,
    PySem.W.mg_of X G aC_Record,
    ⟨pg_Record, hd_Record, po_Record, sa_Record⟩,
    ⟨mk_Record, a_Record_init, i_Record_init, kc_Record⟩,
    ⟨⟨pg_Record, hd_Record, po_Record, sa_Record⟩, ha_Record, hn_Record, ht_Record, hm_Record, (by unfold PySem.W.kitOne; simp)⟩,
    a_Record_eq,
    i_Record_eq,
    hne_Record,
    na_Record_writers,
    na_Record_diaries,
    ⟨⟨_, _, _, _, _, _, _, _, _, _, _, _, _, _, _, xL, by first | rfl | with_unfolding_all rfl | (show PySem.HandSPX.refsVE [.type "ValueError", .type "Exception", .type "BaseException", .type "object"] = true; decide +kernel)⟩, xsa, xex, xty, xk⟩,
    a_BadRecord_init,
    xti,
    ⟨xga, xgg, xex, xhd⟩,
    xpa,
    xat,
    ⟨xga, xgg, xex, xhd, xcl, xcg, xct, xmo⟩,
    PySem.W.exm_ref yex yhd yty yxy,
    (by unfold PySem.W.kitOne; simp),
    kit_mro xmv (by decide +kernel),
    InsK.of ⟨⟨pg_Record, hd_Record, po_Record, sa_Record⟩, ha_Record, hn_Record, ht_Record, hm_Record, (by unfold PySem.W.kitOne; simp)⟩ wmi wmb wmt wms,
    wty,
    PySem.W.mg_of X G co_MOST_MACHINES,
    PySem.W.mg_of X G co_MOST_PUTS,
    PySem.W.mg_none_of X G z_isinstance,
    PySem.W.mg_none_of X G z_int,
    PySem.W.mg_none_of X G z_bool,
    PySem.W.mg_none_of X G z_tuple,
    PySem.W.mg_none_of X G z_len,
    PySem.W.mg_none_of X G z_all,
    PySem.W.mg_none_of X G z_enumerate,
    PySem.W.mg_none_of X G z_set,
    PySem.W.mg_none_of X G z_list,
    PySem.W.mg_none_of X G z_zip,
    PySem.W.mg_none_of X G z_range,
    PySem.W.mg_none_of X G z_abs,
    PySem.W.mg_none_of X G z_min,
    PySem.W.mg_none_of X G z_dict,
    PySem.W.mg_none_of X G z_ValueError⟩
  exact ⟨PySem.W.fnOf "law" "law" (defArgs s_law) (defBody s_law) (defScope s_law) .none kV_law dc_law pm_law an_law cd_law ct_law, fun s v => .of_eq rfl, fun base _ _ => ok_law T⟩
theorem walk {l : PySem.W.OpenLaw} {q : Program} {loose : List Str} {XP : (Str → Option Value) → Heap → Prop} {YP : World → Heap → Prop} {d : DefRec} {K : Params → PySem.W.Frag} (hn : l.most = some 63) (hdf : d.params.defaults = [])
    (hY : ∀ (w : World) (h : Heap), YP w h → (K w.params).In h)
    (F : ∀ (w : World) (mg : Str → Option Value) (fa : Addr) (h : Heap), (K w.params).In h → h.Ns mainGlobals mg → mg d.name = some (.ref fa) →
      ∃ fd : FuncData, (∀ (s : Shared) (u : Value), BindsTo s fd ⟨[u], []⟩ [("_law_script", u)]) ∧ ∀ base : Heap, (K w.params).In base → base.Ns mainGlobals mg → FnOk l.prog w (K w.params) mg base CX0 11 fa fd ["_law_script"] (spLaw (K w.params))) :
    PySem.W.WalkO q loose XP YP l.row.toRowW d [] (fun f vs => PySem.call f vs) :=
  L2.walk_of (n := 63) (k := 11) (x := "_law_script") (CX := fun _ => CX0) (sp := fun w => spLaw (K w.params)) hn (by decide) hdf ⟨rfl, by decide, by decide⟩ hY F (fun _ _ a ns hl _ hS => ⟨a, ns, rfl, hS, hl, fun _ => rfl⟩) fun _ _ _ _ _ z => z
end Mine
/-! ## KZ -/
open PySem PySem.W PyProof.Rows in
set_option maxRecDepth 100000 in
set_option maxHeartbeats 0 in
theorem PySem.Challenge.cw_growalong_k04_records_judged_and_compare_holds : PySem.Challenge.rw_growalong_k04_records_judged_and_compare.Holds := by
  w_on; o_law; k_head; (case hw => w_witness2)
  k_fill
  refine Mine.walk (l := PySem.Challenge.rw_growalong_k04_records_judged_and_compare) rfl rfl (fun w h Y => PySem.W.kIn_of Y) ?F
  case F =>
    intro w mg fa h KX G hmg
    refine' Mine.all_mk KX G hmg ?aC_GrowError ?aC_BadRecord ?aC_Record ?a_BadRecord_init ?i_BadRecord_init ?l_BadRecord_init ?c_BadRecord_init ?k_BadRecord_init ?a_is_integer ?l_is_integer ?c_is_integer ?k_is_integer ?a_is_between ?l_is_between ?c_is_between ?k_is_between ?a_is_below ?l_is_below ?c_is_below ?k_is_below ?a_is_tuple_of ?l_is_tuple_of ?c_is_tuple_of ?k_is_tuple_of ?a_are_below ?l_are_below ?c_are_below ?k_are_below ?a_Record_init ?i_Record_init ?l_Record_init ?c_Record_init ?k_Record_init ?a_Record_eq ?i_Record_eq ?l_Record_eq ?c_Record_eq ?k_Record_eq ?a_check_record ?l_check_record ?c_check_record ?k_check_record ?a_is_diary ?l_is_diary ?c_is_diary ?k_is_diary ?a__law_hand ?l__law_hand ?c__law_hand ?k__law_hand ?a__law_draw ?l__law_draw ?c__law_draw ?k__law_draw ?a__law_is ?l__law_is ?c__law_is ?k__law_is ?a__law_deep ?l__law_deep ?c__law_deep ?k__law_deep ?a__law_web ?l__law_web ?c__law_web ?k__law_web ?a__law_ran ?l__law_ran ?c__law_ran ?k__law_ran ?a__law_is_whole ?l__law_is_whole ?c__law_is_whole ?k__law_is_whole ?a__law_is_sized ?l__law_is_sized ?c__law_is_sized ?k__law_is_sized ?a__law_due ?l__law_due ?c__law_due ?k__law_due ?a__law_told ?l__law_told ?c__law_told ?k__law_told ?a__law_odd ?l__law_odd ?c__law_odd ?k__law_odd ?a__law_bent ?l__law_bent ?c__law_bent ?k__law_bent ?a_law ?l_law ?c_law ?k_law ?pg_Record ?hd_Record ?po_Record ?sa_Record ?mk_Record ?kc_Record ?ha_Record ?hn_Record ?ht_Record ?hm_Record ?hne_Record ?na_Record_writers ?na_Record_diaries ?co_MOST_MACHINES ?co_MOST_PUTS ?z_isinstance ?z_int ?z_bool ?z_tuple ?z_len ?z_all ?z_enumerate ?z_set ?z_list ?z_zip ?z_range ?z_abs ?z_min ?z_dict ?z_ValueError ?xL ?xsa ?xex ?xty ?xk ?xti ?xga ?xgg ?xhd ?xpa ?xat ?xcl ?xcg ?xct ?xmo ?xmv ?yex ?yhd ?yty ?yxy ?wmi ?wmb ?wmt ?wms ?wty
    (case aC_GrowError => k_is)
    (case aC_BadRecord => k_is)
    (case aC_Record => k_is)
    (case a_BadRecord_init => k_is)
    (case i_BadRecord_init => k_is)
    (case l_BadRecord_init => k_is)
    (case c_BadRecord_init => k_is)
    (case k_BadRecord_init => k_is)
    (case a_is_integer => k_is)
    (case l_is_integer => k_is)
    (case c_is_integer => k_is)
    (case k_is_integer => k_is)
    (case a_is_between => k_is)
    (case l_is_between => k_is)
    (case c_is_between => k_is)
    (case k_is_between => k_is)
    (case a_is_below => k_is)
    (case l_is_below => k_is)
    (case c_is_below => k_is)
    (case k_is_below => k_is)
    (case a_is_tuple_of => k_is)
    (case l_is_tuple_of => k_is)
    (case c_is_tuple_of => k_is)
    (case k_is_tuple_of => k_is)
    (case a_are_below => k_is)
    (case l_are_below => k_is)
    (case c_are_below => k_is)
    (case k_are_below => k_is)
    (case a_Record_init => k_is)
    (case i_Record_init => k_is)
    (case l_Record_init => k_is)
    (case c_Record_init => k_is)
    (case k_Record_init => k_is)
    (case a_Record_eq => k_is)
    (case i_Record_eq => k_is)
    (case l_Record_eq => k_is)
    (case c_Record_eq => k_is)
    (case k_Record_eq => k_is)
    (case a_check_record => k_is)
    (case l_check_record => k_is)
    (case c_check_record => k_is)
    (case k_check_record => k_is)
    (case a_is_diary => k_is)
    (case l_is_diary => k_is)
    (case c_is_diary => k_is)
    (case k_is_diary => k_is)
    (case a__law_hand => k_is)
    (case l__law_hand => k_is)
    (case c__law_hand => k_is)
    (case k__law_hand => k_is)
    (case a__law_draw => k_is)
    (case l__law_draw => k_is)
    (case c__law_draw => k_is)
    (case k__law_draw => k_is)
    (case a__law_is => k_is)
    (case l__law_is => k_is)
    (case c__law_is => k_is)
    (case k__law_is => k_is)
    (case a__law_deep => k_is)
    (case l__law_deep => k_is)
    (case c__law_deep => k_is)
    (case k__law_deep => k_is)
    (case a__law_web => k_is)
    (case l__law_web => k_is)
    (case c__law_web => k_is)
    (case k__law_web => k_is)
    (case a__law_ran => k_is)
    (case l__law_ran => k_is)
    (case c__law_ran => k_is)
    (case k__law_ran => k_is)
    (case a__law_is_whole => k_is)
    (case l__law_is_whole => k_is)
    (case c__law_is_whole => k_is)
    (case k__law_is_whole => k_is)
    (case a__law_is_sized => k_is)
    (case l__law_is_sized => k_is)
    (case c__law_is_sized => k_is)
    (case k__law_is_sized => k_is)
    (case a__law_due => k_is)
    (case l__law_due => k_is)
    (case c__law_due => k_is)
    (case k__law_due => k_is)
    (case a__law_told => k_is)
    (case l__law_told => k_is)
    (case c__law_told => k_is)
    (case k__law_told => k_is)
    (case a__law_odd => k_is)
    (case l__law_odd => k_is)
    (case c__law_odd => k_is)
    (case k__law_odd => k_is)
    (case a__law_bent => k_is)
    (case l__law_bent => k_is)
    (case c__law_bent => k_is)
    (case k__law_bent => k_is)
    (case a_law => k_is)
    (case l_law => k_is)
    (case c_law => k_is)
    (case k_law => k_is)
    (case pg_Record => k_is)
    (case hd_Record => k_is)
    (case po_Record => k_is)
    (case sa_Record => k_is)
    (case mk_Record => k_is)
    (case kc_Record => k_is)
    (case ha_Record => k_is)
    (case hn_Record => k_is)
    (case ht_Record => k_is)
    (case hm_Record => k_is)
    (case hne_Record => k_is)
    (case na_Record_writers => k_is)
    (case na_Record_diaries => k_is)
    (case co_MOST_MACHINES => k_is)
    (case co_MOST_PUTS => k_is)
    (case z_isinstance => k_is)
    (case z_int => k_is)
    (case z_bool => k_is)
    (case z_tuple => k_is)
    (case z_len => k_is)
    (case z_all => k_is)
    (case z_enumerate => k_is)
    (case z_set => k_is)
    (case z_list => k_is)
    (case z_zip => k_is)
    (case z_range => k_is)
    (case z_abs => k_is)
    (case z_min => k_is)
    (case z_dict => k_is)
    (case z_ValueError => k_is)
    (case xL => k_is)
    (case xsa => k_is)
    (case xex => k_is)
    (case xty => k_is)
    (case xk => k_is)
    (case xti => k_is)
    (case xga => k_is)
    (case xgg => k_is)
    (case xhd => k_is)
    (case xpa => k_is)
    (case xat => k_is)
    (case xcl => k_is)
    (case xcg => k_is)
    (case xct => k_is)
    (case xmo => k_is)
    (case xmv => k_is)
    (case yex => k_is)
    (case yhd => k_is)
    (case yty => k_is)
    (case yxy => k_is)
    (case wmi => k_is)
    (case wmb => k_is)
    (case wmt => k_is)
    (case wms => k_is)
    (case wty => k_is)

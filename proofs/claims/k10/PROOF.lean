import PyProof.Rows.All
import Wide.All
import OpenK.AllK
import Wide.FinOn
import HandS.ForMost
import HandS.Deep
import HandS.IsInst
import HandS.TupLe
import HandS.TupAny
import HandS.TupSets
import HandS.Style
import HandS.Zip
import HandS.More
import HandS.SortInts
import HandS.Codes
import HandS.Walk
import HandS.Iter
import KE.GoesEnum
import PyProof.Rows.SortShell
import HandS.Conv
import HandS.OwnEq
import PyProof.InstNe
import HandS.Strs
import PyProof.WalksMore
import KE.KDictPairs
import KE.KDictCopyH
import KE.KDictKeyed
import HandS.SetFor
import HandS.DictComp
import HandS.SetKeys
import PySem.Challenge.RW_growalong_k10_trees_and_bars_judged
set_option Elab.async false
set_option linter.all false
set_option maxRecDepth 100000
set_option maxHeartbeats 4000000
/-! ## GA -/
namespace GA
open PySem L2

/-! ### heaps: what stays -/
/-- tuples stay -/
def Ts (H H' : Hp) : Prop := ∀ a xs, Rd H a (.tup xs) → Rd H' a (.tup xs)
/-- the hand of draws: a list at hd whose first item is the list of ints at c -/
def Hand (H : Hp) (hd c : Addr) : Prop := c ≠ hd ∧ (∃ ns : List Int, H c = some (.lst (ns.map V.int))) ∧ ∃ (i b m k : Int), H hd = some (.lst [.ref c, .int i, .int b, .int m, .int k]) ∧ 0 ≤ i
/-- all that stood stands, but for the hand's own list -/
structure G (o : Option (Addr × Addr)) (H H' : Hp) : Prop where
  keep : ∀ a u, (∀ p, o = some p → a ≠ p.1) → H a = some u → H' a = some u
  tups : Ts H H'
  hand : ∀ p, o = some p → Hand H p.1 p.2 → Hand H' p.1 p.2
theorem G.refl {o : Option (Addr × Addr)} {H : Hp} : G o H H := ⟨fun _ _ _ h => h, fun _ _ h => h, fun _ _ h => h⟩
theorem G.trans {o : Option (Addr × Addr)} {H H1 H2 : Hp} (a : G o H H1) (b : G o H1 H2) : G o H H2 :=
  ⟨fun x u n h => b.keep x u n (a.keep x u n h), fun x xs h => b.tups x xs (a.tups x xs h), fun p e h => b.hand p e (a.hand p e h)⟩
theorem G.all {H H' : Hp} (g : G none H H') (a : Addr) (u : HO) (h : H a = some u) : H' a = some u := g.keep a u (fun p e => nomatch e) h
theorem G.of_all {o : Option (Addr × Addr)} {H H' : Hp} (k : ∀ a u, H a = some u → H' a = some u) : G o H H' :=
  ⟨fun a u _ h => k a u h, fun a xs h => h.elim (fun h => .inl (k _ _ h)) fun ⟨ob, h⟩ => .inr ⟨ob, k _ _ h⟩,
    fun p _ ⟨n, ⟨ns, h1⟩, i, b, m, z, h2, h3⟩ => ⟨n, ⟨ns, k _ _ h1⟩, i, b, m, z, k _ _ h2, h3⟩⟩
theorem G.up {o : Option (Addr × Addr)} {H H' : Hp} (g : G none H H') : G o H H' := G.of_all g.all
theorem G.alloc {o : Option (Addr × Addr)} {H : Hp} {p : Addr} {u : HO} (h : H p = none) : G o H (upd H p u) := G.of_all fun a w e => by
  rw [upd_ne (ne_of_none e h)]; exact e
/-- a thing that H does not know is changed -/
theorem G.mut {o : Option (Addr × Addr)} {H H' : Hp} {l : Addr} {u : HO} (g : G o H H') (h : H l = none) (hh : ∀ p, o = some p → Hand H p.1 p.2) : G o H (upd H' l u) := by
  refine ⟨fun a w n e => ?_, fun a xs e => ?_, fun p e x => ?_⟩
  · rw [upd_ne (ne_of_none e h)]; exact g.keep a w n e
  · have ne : a ≠ l := by
      rcases e with e | ⟨ob, e⟩ <;> exact ne_of_none e h
    rcases g.tups a xs e with q | ⟨ob, q⟩
    · exact .inl (by rw [upd_ne ne]; exact q)
    · exact .inr ⟨ob, by rw [upd_ne ne]; exact q⟩
  · obtain ⟨n0, ⟨ns0, h0⟩, i0, b0, m0, k0, h1, _⟩ := hh p e
    obtain ⟨n, ⟨ns, h2⟩, i, b, m, k, h3, h4⟩ := g.hand p e x
    exact ⟨n, ⟨ns, by rw [upd_ne (ne_of_none h0 h)]; exact h2⟩, i, b, m, k, by rw [upd_ne (ne_of_none h1 h)]; exact h3, h4⟩
theorem Hand.ne {H : Hp} {hd c l : Addr} (x : Hand H hd c) (h : H l = none) : l ≠ hd := fun e => by
  obtain ⟨_, _, _, _, _, _, h1, _⟩ := x
  rw [← e, h] at h1; cases h1
/-- an address that is not the hand's -/
def Off (o : Option (Addr × Addr)) (a : Addr) : Prop := ∀ p, o = some p → a ≠ p.1
theorem off_none {a : Addr} : Off none a := fun _ e => nomatch e
theorem off_new {hd c l : Addr} {H : Hp} (x : Hand H hd c) (h : H l = none) : Off (some (hd, c)) l := fun p e => by cases e; exact x.ne h
theorem off_ins {hd c a C dx : Addr} {fs : List (Str × V)} {H : Hp} (x : Hand H hd c) (h : H a = some (.ins C dx fs)) : Off (some (hd, c)) a := fun p e => by
  cases e
  obtain ⟨_, _, _, _, _, _, h1, _⟩ := x
  exact ne_of h h1 (by intro z; cases z)
theorem off_dK {hd c a : Addr} {kvs : List (Key × V)} {H : Hp} (x : Hand H hd c) (h : H a = some (.dK kvs)) : Off (some (hd, c)) a := fun p e => by
  cases e
  obtain ⟨_, _, _, _, _, _, h1, _⟩ := x
  exact ne_of h h1 (by intro z; cases z)

/-! ### data without lists -/
mutual
def nl : PyData → Bool
  | .list _ => false
  | .dict _ => false
  | .tuple ds => nls ds
  | .none => true
  | .bool _ => true
  | .int _ => true
  | .str _ => true
def nls : List PyData → Bool
  | [] => true
  | d :: ds => nl d && nls ds
end
theorem nls_iff : ∀ {ds : List PyData}, nls ds = true ↔ ∀ d ∈ ds, nl d = true
  | [] => by simp [nls]
  | d :: ds => by simp [nls, nls_iff (ds := ds)]
section
variable {K : PySem.W.Frag} {H H' : Hp}
theorem sqT_t (t : Ts H H') {a : Addr} {xs : List V} (h : SqT K H a xs) : SqT K H' a xs := h.elim (fun h => .inl (t _ _ h)) .inr
mutual
theorem dp_t (t : Ts H H') : ∀ (d : PyData) (v : V), nl d = true → Dp K H v d → Dp K H' v d
  | .none, _, _, h => by cases h; exact .non
  | .bool b, _, _, h => by cases h; exact .bl b
  | .int i, _, _, h => by cases h; exact .int i
  | .str x, _, _, h => by cases h; exact .str x
  | .list ds, _, n, _ => by simp [nl] at n
  | .dict ds, _, n, _ => by simp [nl] at n
  | .tuple ds, _, n, h => by
    cases h with
    | tup hs ha => exact .tup (sqT_t t hs) (dpAll_t t ds _ (by simpa [nl] using n) ha)
theorem dpAll_t (t : Ts H H') : ∀ (ds : List PyData) (vs : List V), nls ds = true → DpAll K H vs ds → DpAll K H' vs ds
  | [], _, _, h => by cases h; exact .nil
  | d :: ds, _, n, h => by
    cases h with
    | cons h1 h2 =>
      have n' : nl d = true ∧ nls ds = true := by simpa [nls] using n
      exact .cons (dp_t t d _ n'.1 h1) (dpAll_t t ds _ n'.2 h2)
end
theorem DpAll.length : ∀ {vs : List V} {ds : List PyData}, DpAll K H vs ds → vs.length = ds.length
  | _, _, .nil => rfl
  | _, _, .cons _ t => by simp [DpAll.length t]
theorem DpAll.get : ∀ {vs : List V} {ds : List PyData} {i : Nat} {v : V}, DpAll K H vs ds → vs[i]? = some v → ∃ d, ds[i]? = some d ∧ Dp K H v d
  | _, _, _, _, .nil, e => by simp at e
  | _, _, 0, _, .cons h _, e => by simp at e; subst e; exact ⟨_, rfl, h⟩
  | _, _, i + 1, v, .cons _ t, e => by
    obtain ⟨d, h1, h2⟩ := DpAll.get (i := i) (v := v) t (by simpa using e)
    exact ⟨d, by simpa using h1, h2⟩
theorem DpAll.get' : ∀ {vs : List V} {ds : List PyData} {i : Nat} {d : PyData}, DpAll K H vs ds → ds[i]? = some d → ∃ v, vs[i]? = some v ∧ Dp K H v d
  | _, _, _, _, .nil, e => by simp at e
  | _, _, 0, _, .cons h _, e => by simp at e; subst e; exact ⟨_, rfl, h⟩
  | _, _, i + 1, d, .cons _ t, e => by
    obtain ⟨v, h1, h2⟩ := DpAll.get' (i := i) (d := d) t (by simpa using e)
    exact ⟨v, by simpa using h1, h2⟩
theorem DpAll.app : ∀ {vs ws : List V} {ds es : List PyData}, DpAll K H vs ds → DpAll K H ws es → DpAll K H (vs ++ ws) (ds ++ es)
  | _, _, _, _, .nil, h => h
  | _, _, _, _, .cons h t, h' => .cons h (DpAll.app t h')
theorem DpAll.one {v : V} {d : PyData} (h : Dp K H v d) : DpAll K H [v] [d] := .cons h .nil
theorem DpAll.ints : ∀ (ns : List Int), DpAll K H (ns.map V.int) (ns.map PyData.int)
  | [] => .nil
  | n :: ns => .cons (.int n) (DpAll.ints ns)
theorem DpAll.of_ints : ∀ {ns : List Int} {vs : List V}, DpAll K H vs (ns.map PyData.int) → vs = ns.map V.int
  | [], _, .nil => rfl
  | n :: ns, _, .cons h t => by cases h; rw [DpAll.of_ints t]; rfl
end
/-- a tuple of ints, a pair, a tuple of pairs -/
abbrev dI (ns : List Int) : PyData := .tuple (ns.map PyData.int)
abbrev dP (w : Int × Int) : PyData := .tuple [.int w.1, .int w.2]
abbrev dW (ws : List (Int × Int)) : PyData := .tuple (ws.map dP)
theorem nls_ints (ns : List Int) : nls (ns.map PyData.int) = true := by rw [nls_iff]; intro d h; simp only [List.mem_map] at h; obtain ⟨n, _, rfl⟩ := h; rfl
theorem nls_pairs (ws : List (Int × Int)) : nls (ws.map dP) = true := by rw [nls_iff]; intro d h; simp only [List.mem_map] at h; obtain ⟨n, _, rfl⟩ := h; rfl
theorem nl_dI (ns : List Int) : nl (dI ns) = true := by show nls _ = true; exact nls_ints ns
theorem nl_dP (w : Int × Int) : nl (dP w) = true := rfl
theorem nl_dW (ws : List (Int × Int)) : nl (dW ws) = true := by show nls _ = true; exact nls_pairs ws
section
variable {K : PySem.W.Frag} {H H' : Hp}
theorem dp_dI {v : V} {ns : List Int} (h : Dp K H v (dI ns)) : ∃ a, v = .ref a ∧ SqT K H a (ns.map V.int) := by
  cases h with
  | tup hs ha => exact ⟨_, rfl, by rw [← DpAll.of_ints ha]; exact hs⟩
theorem dp_dP {v : V} {w : Int × Int} (h : Dp K H v (dP w)) : ∃ a, v = .ref a ∧ SqT K H a [.int w.1, .int w.2] := by
  cases h with
  | tup hs ha =>
    cases ha with
    | cons h1 t =>
      cases t with
      | cons h2 t =>
        cases t; cases h1; cases h2
        exact ⟨_, rfl, hs⟩
theorem dp_tup {v : V} {ds : List PyData} (h : Dp K H v (.tuple ds)) : ∃ a vs, v = .ref a ∧ SqT K H a vs ∧ DpAll K H vs ds := by
  cases h with
  | tup hs ha => exact ⟨_, _, rfl, hs, ha⟩
theorem dp_ofI {a : Addr} {ns : List Int} (h : SqT K H a (ns.map V.int)) : Dp K H (.ref a) (dI ns) := .tup h (DpAll.ints ns)
theorem dp_ofP {a : Addr} {i j : Int} (h : SqT K H a [.int i, .int j]) : Dp K H (.ref a) (dP (i, j)) := .tup h (.cons (.int i) (.cons (.int j) .nil))
end

/-! ### steps: a reading by its first part -/
section
variable {K : PySem.W.Frag} {σ : L2.St} {H : Hp} {Q : VK} {QB : Bool → Hp → Prop} {D : Ends} {ta tb tc te : TE} {t u : TT} {ts tu : TS} {r r' : R2} {v x y : V} {i j : Int} {n : Nat} {b : Bool} {A B : Prop}
theorem w_var {i : Nat} (h : σ[i]? = some (some v)) (q : Q v H) : tVar i σ H Q := ⟨v, h, q⟩
theorem w_c (q : Q v H) : tC v σ H Q := q
theorem w_op (q : ta σ H fun x H1 => tb σ H1 fun y H2 => r x y H2 Q) : tOp r ta tb σ H Q := q
theorem w_un {f : V → Hp → VK → Prop} (q : ta σ H fun x H1 => f x H1 Q) : tUn f ta σ H Q := q
theorem w_seq (q : ts { D with nx := tu D } σ H) : tSeq ts tu D σ H := q
theorem w_next (q : D.nx σ H) : tNext D σ H := q
theorem w_break (q : D.bk σ H) : tBreak D σ H := q
theorem w_set {i : Nat} (q : te σ H fun x H1 => D.nx (σ.set i (some x)) H1) : tAsg te (gName i) D σ H := q
theorem w_asg {g : TG} (q : te σ H fun x H1 => g x σ H1 D.nx) : tAsg te g D σ H := q
theorem w_drop (q : te σ H fun _ H1 => D.nx σ H1) : tDrop te D σ H := q
theorem w_ret (q : te σ H D.rt) : tRet te D σ H := q
theorem w_retN (q : D.rt .non H) : tRetN D σ H := q
theorem w_ifS (q : t σ H fun b H1 => if b = true then ts D σ H1 else tu D σ H1) : tIfS t ts tu D σ H := q
theorem w_test (q : te σ H fun x H' => ∃ k, x = .bl k ∧ QB k H') : tTest te σ H QB := q
theorem w_tB (q : te σ H fun x H' => ∃ k, x = .bl k ∧ QB k H') : tB te σ H QB := q
theorem w_bl (q : QB b H) : ∃ k, V.bl b = .bl k ∧ QB k H := ⟨b, rfl, q⟩
theorem w_not (q : t σ H fun c H1 => QB (!c) H1) : tNot t σ H QB := q
theorem w_and (q : t σ H fun c H1 => if c = true then u σ H1 QB else QB false H1) : tAnd t u σ H QB := q
theorem w_or (q : t σ H fun c H1 => if c = true then QB true H1 else u σ H1 QB) : tOr t u σ H QB := q
theorem w_andV (q : ta σ H fun x H1 => ∃ c, x = .bl c ∧ if c = true then tb σ H1 Q else Q (.bl false) H1) : tAndV ta tb σ H Q := q
theorem w_orV (q : ta σ H fun x H1 => ∃ c, x = .bl c ∧ if c = true then Q (.bl true) H1 else tb σ H1 Q) : tOrV ta tb σ H Q := q
theorem w_notV (q : ta σ H fun x H1 => ∃ c, x = .bl c ∧ Q (.bl (!c)) H1) : tNotV ta σ H Q := q
theorem w_if (q : t σ H fun c H1 => if c = true then ta σ H1 Q else tb σ H1 Q) : tIf t ta tb σ H Q := q
theorem w_blc {F : Bool → Prop} (q : F b) : ∃ c, V.bl b = .bl c ∧ F c := ⟨b, rfl, q⟩
theorem w_nil {QA : List V → Hp → Prop} (q : QA [] H) : tNil σ H QA := q
theorem w_cons {tr : TA} {QA : List V → Hp → Prop} (q : te σ H fun x H1 => tr σ H1 fun xs H2 => QA (x :: xs) H2) : tCons te tr σ H QA := q
theorem w_CB {f : List V → Hp → VK → Prop} {tr : TA} (q : tr σ H fun vs H1 => f vs H1 Q) : tCB f tr σ H Q := q
theorem w_call {sp : Sp} {E : XK} {tr : TA} (q : tr σ H fun vs H1 => sp (vs ++ []) H1 Q E) : tCall sp [] E tr σ H Q := q
theorem w_tup {tr : TA} (q : tr σ H fun xs H1 => xs.length ≤ sizeLine ∧ ∀ p, H1 p = none → Q (.ref p) (upd H1 p (.tup xs))) : tTup tr σ H Q := q
theorem w_lst {tr : TA} (q : tr σ H fun xs H1 => xs.length ≤ sizeLine ∧ ∀ p, H1 p = none → Q (.ref p) (upd H1 p (.lst xs))) : tLst tr σ H Q := q
theorem w_chain (q : ta σ H fun x H1 => tb σ H1 fun y H2 => r x y H2 fun z H3 => ∃ k, z = .bl k ∧ (if k = true then tc σ H3 fun w' H4 => r' y w' H4 Q else Q (.bl false) H3)) : tChain r r' ta tb tc σ H Q := q
theorem w_sl {f : V → Option Int → Option Int → Hp → VK → Prop} {tl th : TO} (q : te σ H fun x H1 => tl σ H1 fun l H2 => th σ H2 fun u H3 => f x l u H3 Q) : tSl f te tl th σ H Q := q
theorem w_part {QO : Option Int → Hp → Prop} (q : te σ H fun x H1 => ∃ i, x = .int i ∧ QO (some i) H1) : tPart te σ H QO := q
theorem w_noPart {QO : Option Int → Hp → Prop} (q : QO none H) : tNoPart σ H QO := q
theorem w_inti {F : Int → Prop} (q : F i) : ∃ k, V.int i = .int k ∧ F k := ⟨i, rfl, q⟩
theorem w_fld {f : Str} (q : te σ H fun x H1 => ∃ a C dx fs v, x = .ref a ∧ H1 a = some (.ins C dx fs) ∧ Cls K C ∧ NoAttr K C f ∧ fs.lookup f = some v ∧ Q v H1) : tFld K te f σ H Q := q
theorem w_sfld {f : Str} (q : tb σ H fun y H1 => ta σ H1 fun x H2 => ∃ a C dx fs, x = .ref a ∧ H2 a = some (.ins C dx fs) ∧ Cls K C ∧ NoAttr K C f ∧ fs.length < 1000 ∧ D.nx σ (upd H2 a (.ins C dx (putF f y fs)))) : sFld K ta tb f D σ H := q
theorem w_gsub {to ti : TE} {s : TSet} {QS : L2.St → Hp → Prop} (q : to σ H fun o H1 => ti σ H1 fun i H2 => s o i v H2 fun H3 => QS σ H3) : gSub to ti s v σ H QS := q
theorem w_gname {i : Nat} {QS : L2.St → Hp → Prop} (q : QS (σ.set i (some v)) H) : gName i v σ H QS := q
/-! by values -/
theorem r_I0 {g : Int → Int → V} (q : Q (g i j) H) : rI0 g (.int i) (.int j) H Q := ⟨i, j, rfl, rfl, q⟩
theorem r_I {C : Int → Int → Prop} {g : Int → Int → V} (c : C i j) (q : Q (g i j) H) : rI C g (.int i) (.int j) H Q := ⟨i, j, rfl, rfl, c, q⟩
theorem r_U {g : Int → V} (q : Q (g i) H) : rU g (.int i) H Q := ⟨i, rfl, q⟩
theorem r_eqI (q : Q (.bl (decide (i = j))) H) : rEq (.int i) (.int j) H Q := ⟨rfl, by
  have e : decide (V.int i = V.int j) = decide (i = j) := by simp
  rw [e]; exact q⟩
theorem r_neI (q : Q (.bl (!decide (i = j))) H) : rNe (.int i) (.int j) H Q := ⟨rfl, by
  have e : decide (V.int i = V.int j) = decide (i = j) := by simp
  rw [e]; exact q⟩
theorem r_eqB {a b : Bool} (q : Q (.bl (decide (a = b))) H) : rEq (.bl a) (.bl b) H Q := ⟨rfl, by
  have e : decide (V.bl a = V.bl b) = decide (a = b) := by simp
  rw [e]; exact q⟩
theorem r_neB {a b : Bool} (q : Q (.bl (!decide (a = b))) H) : rNe (.bl a) (.bl b) H Q := ⟨rfl, by
  have e : decide (V.bl a = V.bl b) = decide (a = b) := by simp
  rw [e]; exact q⟩
theorem r_ixT {p : Addr} {xs : List V} (h : SqT K H p xs) (e : atI xs i = some v) (q : Q v H) : rIxT K (.ref p) (.int i) H Q := ⟨p, xs, i, v, rfl, rfl, h, e, q⟩
theorem r_ixL {p : Addr} {xs : List V} (h : SqL K H p xs) (e : atI xs i = some v) (q : Q v H) : rIxL K (.ref p) (.int i) H Q := ⟨p, xs, i, v, rfl, rfl, h, e, q⟩
theorem w_ite (h1 : b = true → A) (h2 : b = false → B) : if b = true then A else B := by
  cases b with
  | true => exact h1 rfl
  | false => exact h2 rfl
theorem w_newT {o : Option (Addr × Addr)} {xs : List V} (q : ∀ p H1, H p = none → G o H H1 → H1 p = some (.tup xs) → Q (.ref p) H1) (hz : xs.length ≤ 100000 := by simp) : xs.length ≤ sizeLine ∧ ∀ p, H p = none → Q (.ref p) (upd H p (.tup xs)) :=
  ⟨Nat.le_trans hz (by decide), fun p hp => q p _ hp (G.alloc hp) upd_same⟩
theorem w_newL {o : Option (Addr × Addr)} {xs : List V} (q : ∀ p H1, H p = none → G o H H1 → H1 p = some (.lst xs) → Q (.ref p) H1) (hz : xs.length ≤ 100000 := by simp) : xs.length ≤ sizeLine ∧ ∀ p, H p = none → Q (.ref p) (upd H p (.lst xs)) :=
  ⟨Nat.le_trans hz (by decide), fun p hp => q p _ hp (G.alloc hp) upd_same⟩
end
end GA
/-! ## GB -/
namespace PySem
open Sem (wp)
open AutoSeq1 (wpAny_loadPart')
theorem ga_enumerate_newT (l : Addr) (items : Array Value) :
    Meets (Builtin.«enumerate.__new__» ⟨[.type "enumerate", .ref l], []⟩) (fun _ R s => s.heap.IsTuple l items ∧
      R (.ok (.ret (.ref (s.heap.push { cls := .type "tuple_iterator", data := .fields #[.ref l, .int 0 0] }).objs.size)))
        { s with heap := (s.heap.push { cls := .type "tuple_iterator", data := .fields #[.ref l, .int 0 0] }).push { cls := .type "enumerate", data := .fields #[.none, .bool false, .ref s.heap.objs.size, rawInt 0, .none, .none] } }) :=
  .of_wp fun prog w A R s h => by
    obtain ⟨hp, g, d, tk, os⟩ := s; obtain ⟨hl, h⟩ := h
    have hsub := sub_enumerate
    have hL : Heap.IsTuple (Shared.heap ⟨hp, g, d, tk, os⟩) l items := hl
    obtain ⟨ob, hob, _⟩ := id hl
    wp_walk using wpAny_loadPart' hob
    refine wpAny_stack_any fun st => wpAny_pure ?_
    split
    · rename_i c _ _ _ _ _
      cases (c == Value.type "enumerate")
      · wp_walk using wpAny_loadPart' hob, wpAny_pyIter_tuple hL
        exact ⟨_, rfl, h⟩
      · wp_walk using wpAny_loadPart' hob, wpAny_pyIter_tuple hL
        exact ⟨_, rfl, h⟩
    · wp_walk using wpAny_loadPart' hob, wpAny_pyIter_tuple hL
      exact ⟨_, rfl, h⟩
theorem ga_enumerate_tuple {prog : Program} {w : World} {A : Around} {E : Value → Shared → Prop} {s : Shared} {l : Addr} {items : Array Value} {Q : Value → Shared → Prop} (hL : s.heap.IsTuple l items)
    (h : ∀ h', IsEnum h' (s.heap.objs.size + 1) s.heap.objs.size 0 .none → h'.IsTupleIter s.heap.objs.size l 0 → h'.objs.size = s.heap.objs.size + 2 →
      (∀ b o, s.heap.get? b = some o → h'.get? b = some o) → Q (.ref (s.heap.objs.size + 1)) { s with heap := h' }) :
    wpAny (model prog w) A (call (.type "enumerate") [.ref l]) Q E s := by
  refine callType_new F.called_enumerate (by decide) (F.typeCall_enumerate_1 _) (F.newCall_enumerate_1 _) (fun obj => F.args_object_init_2 obj _) F.entry_enumerate_new
    (ga_enumerate_newT l items) ⟨hL, ?_⟩
  have hz : (s.heap.push { cls := .type "tuple_iterator", data := .fields #[.ref l, .int 0 0] }).objs.size = s.heap.objs.size + 1 := Heap.size_push ..
  show _ ∧ _
  rw [hz]
  have he : IsEnum ((s.heap.push { cls := .type "tuple_iterator", data := .fields #[.ref l, .int 0 0] }).push
      { cls := .type "enumerate", data := .fields #[.none, .bool false, .ref s.heap.objs.size, rawInt 0, .none, .none] }) (s.heap.objs.size + 1) s.heap.objs.size 0 .none := by
    have := Heap.get?_push_size (s.heap.push { cls := .type "tuple_iterator", data := .fields #[.ref l, .int 0 0] })
      (o := { cls := .type "enumerate", data := .fields #[.none, .bool false, .ref s.heap.objs.size, rawInt 0, .none, .none] }) rfl
    rw [hz] at this; exact this
  refine ⟨⟨_, he, rfl⟩, h _ he ⟨_, Heap.get?_push_of_some _ (Heap.get?_push_size _ rfl), rfl, rfl⟩ (by rw [Heap.size_push, hz]) fun b o x => Heap.get?_push_of_some _ (Heap.get?_push_of_some _ x)⟩
end PySem
namespace GA
open PySem PySem.Spec PyProof.Rows L2
/-- enumerate over a tuple -/
def IteT (K : PySem.W.Frag) (a : Addr) : It :=
  ⟨fun i H => ∃ (xs : List V) (x : V), SqT K H a xs ∧ xs[i]? = some x, fun i H v H' => ∃ T x, v = .ref T ∧ H T = none ∧ H' = upd H T (.tup [.int (i : Nat), x]) ∧ ∀ xs, SqT K H a xs → xs[i]? = some x, fun i H => ∃ xs : List V, SqT K H a xs ∧ xs.length ≤ i⟩
theorem turn_enumT {P : Program} {w : World} {K : PySem.W.Frag} {elts : List Expr} {kk : Nat} {tpos : Pos} (a e it : Addr) (nai : a ≠ it) (nae : a ≠ e) :
    Turn P w K (.Tuple elts kk tpos) (IteT K a) [e, it] e (fun i h => (∃ old, IsEnum h e it ((i : Nat) : Int) old) ∧ h.IsTupleIter it a i ∧ e ≠ it) where
  mem := by simp
  obj := fun i h st b hb => by
    obtain ⟨⟨old, he⟩, ⟨o, ho, hc, hd⟩, _⟩ := st
    have e' : b = e ∨ b = it := by simpa using hb
    rcases e' with z | z
    · rw [z]; exact ⟨_, he, fun v q => nomatch q⟩
    · rw [z]; exact ⟨o, ho, fun v q => by rw [hd] at q; cases q⟩
  keep := fun i h h' st k => let ⟨⟨old, he⟩, hi, hne⟩ := st; ⟨⟨old, k e (by simp) _ he⟩, hi.at fun o q => k it (by simp) o q, hne⟩
  item := by
    intro X hP hw hK hc i pins s σ H E I hf st hg
    subst hP hw hK
    obtain ⟨⟨old, he⟩, hit, hne⟩ := st
    obtain ⟨xs, x, hq, hx⟩ := hg
    obtain ⟨its, rv, p, hz⟩ := I.tuple hq
    obtain ⟨u, hu, ru⟩ := rv.get hx
    have hel : e < s.heap.objs.size := Heap.lt_size he
    have hil : it < s.heap.objs.size := by obtain ⟨_, q, _⟩ := hit; exact Heap.lt_size q
    have hi : i < its.toArray.size := by
      have := (List.getElem?_eq_some_iff.mp hu).1
      simpa using this
    refine wpAny_pyNext_enum_itemD (Draws.tuple (prog := X.prog) (w := X.w) (A := X.A.in1) (I.ok.hd hc) it a nai its.toArray) he ⟨hit, p⟩ hi hne (by simp [hne, Ne.symm nae]) fun v h' tk hv ho hst hT hsz hk => ?_
    have ev : v = u := by
      have z : its.toArray[i]? = some u := by simpa using hu
      rw [z] at hv; exact (Option.some.inj hv).symm
    subst ev
    refine ⟨_, rfl, wpAny_letOwnedTupleGo_enum (s := { s with heap := h', toks := tk + 1 }) ho fun h'' he' sb => ?_⟩
    have hT2 : h''.get? s.heap.objs.size = some { cls := .type "tuple", data := .seq #[.int i tk, v] } := (sb.2 _ (Nat.ne_of_gt hel)).trans hT
    have new : ObjOk X.prog X.w (upd H s.heap.objs.size (.tup [.int (i : Nat), x])) h'' s.heap.objs.size (.tup [.int (i : Nat), x]) :=
      ⟨by show 2 ≤ sizeLine; decide, [.int i tk, v], .cons ⟨_, rfl⟩ (.cons ru .nil), ⟨_, hT2, rfl, _, rfl⟩⟩
    have I1 : Inv X pins σ (upd H s.heap.objs.size (.tup [.int (i : Nat), x])) { s with heap := h'', toks := tk + 1 } :=
      I.turnedNew (ch := [e, it]) (fun b ob hb q => (sb.2 b (fun z => hb (by simp [z]))).trans (hk b ob (fun z => hb (by simp [z])) (fun z => hb (by simp [z])) q)) hf (Nat.le_refl _) new
    refine ⟨.ref s.heap.objs.size, _, I1, rfl, ⟨_, x, rfl, I.hok.fresh (Nat.le_refl _), rfl, fun ys hy => by rw [I.tuple_inj hy hq]; exact hx⟩, ⟨⟨v, ?_⟩, hst.1.at fun o q => (sb.2 it (Ne.symm hne)).trans q, hne⟩, fun b hb => ?_⟩
    · have e1 : ((i + 1 : Nat) : Int) = (i : Int) + 1 := by omega
      rw [e1]; exact he'
    · have hb' : b < s.heap.objs.size := by
        have e' : b = e ∨ b = it := by simpa using hb
        rcases e' with z | z
        · rw [z]; exact hel
        · rw [z]; exact hil
      rw [upd_ne (Nat.ne_of_lt hb')]
      exact (hf b hb).1
  done := by
    intro X hP hw hK hc i pins s σ H E I hf st hg
    subst hP hw hK
    obtain ⟨⟨old, he⟩, hit, hne⟩ := st
    obtain ⟨xs, hq, hx⟩ := hg
    obtain ⟨its, rv, p, hz⟩ := I.tuple hq
    obtain ⟨f0, f1, f2, f3, f4, f5⟩ := hf it (by simp)
    have hl := rv.length
    have hT : s.TypeIs (.ref e) "enumerate" := ⟨_, he, rfl⟩
    unfold pyNext
    refine wpAny_bind (wpAny_attempt (wpAny_callSpecial?_slot (name := Str.ofString "__next__") hT F.slot_enumerate_next
      (wpAny_call_entry F.slot_enumerate_next hT F.entry_enumerate_next ?_ (F.args_enumerate_next_1 _))))
    show wpAny _ _ (field (.ref e) 2 >>= _) _ _ _
    refine wpAny_bind (wpAny_field he rfl (x := .ref it) rfl ?_)
    refine wpAny_bind (wpAny_nextOf_tuple_end (I.ok.hd hc) hit p (by simp; omega) fun h' x' he' hx' => ?_)
    obtain ⟨o, ho, hc'⟩ := hx'
    refine wpAny_bind (wpAny_isInstance (T := "StopIteration") (b := true) ⟨o, ho, hc'⟩ isSubtype_stop ?_)
    exact wpAny_pure ⟨rfl, I.turned (t' := s.toks) (fun b o hb q => he' b o hb q) f0 f1 f3 f4 f5⟩
  self := by
    intro A i s Q E st h
    obtain ⟨⟨old, he⟩, _⟩ := st
    exact wpAny_pyIter_enum he h
def iEnumT (K : PySem.W.Frag) (ta : TA) : TI := fun σ H R => ta σ H fun vs H1 => ∃ a xs, vs = [.ref a] ∧ SqT K H1 a xs ∧ R (IteT K a) H1
theorem pi_enumT {X : Cx} {e : Expr} {ta : TA} {p pos tpos : Pos} {elts : List Expr} {kk : Nat} (hg : Gl X "enumerate") (hm : X.mg "enumerate" = none) (ha : PA X [e] ta) (hs : starEach [e] X.env = [(false, eval e X.env)] := by rfl) :
    PI X (.Tuple elts kk tpos) (.Call (.Name "enumerate" p) [e] [] pos) (iEnumT X.K ta) := by
  refine ⟨fun pins s σ H R I h => ?_⟩
  refine Call_ (ld_blt I hg hm boot_enumerate (PyProof.Rows.callWith_type1 (thn (ha.run pos pins s σ H _ I h) fun us s1 ⟨vs, H1, I1, r1, q1⟩ => ?_) hs rfl))
  obtain ⟨a, xs, ex, hq, q⟩ := q1
  subst ex
  cases r1 with
  | cons r rr =>
    cases rr
    cases r
    obtain ⟨its, rv, p', hz⟩ := I1.tuple hq
    have hal : a < s1.heap.objs.size := p'.lt
    refine ga_enumerate_tuple p' fun h' he hit hsz hk => wpAny_pyIter_enum he ?_
    have I2 : Inv X pins σ H1 { s1 with heap := h' } := I1.kept (t' := s1.toks) hk
    refine ⟨s1.heap.objs.size + 1, [s1.heap.objs.size + 1, s1.heap.objs.size], _, _, H1, rfl, I2, turn_enumT a (s1.heap.objs.size + 1) s1.heap.objs.size (Nat.ne_of_lt hal) (Nat.ne_of_lt (Nat.lt_succ_of_lt hal)), ⟨⟨.none, he⟩, hit, Nat.succ_ne_self _⟩, fun b hb => ?_, q⟩
    have e' : b = s1.heap.objs.size + 1 ∨ b = s1.heap.objs.size := by simpa using hb
    have hle : s1.heap.objs.size ≤ b := by
      rcases e' with z | z
      · rw [z]; exact Nat.le_add_right _ _
      · rw [z]; exact Nat.le_refl _
    exact I1.fpOk hle (I1.hok.fresh hle)
theorem walk_enumT {K : PySem.W.Frag} {a : Addr} {xs : List V} : Walk (IteT K a) xs.length (fun H => SqT K H a xs) (YPair (fun i => some (.int (i : Nat))) (fun i => xs[i]?)) := by
  refine ⟨fun i _ hi q => ⟨xs, xs[i], q, by simp [hi]⟩, fun _ q => ⟨xs, q, Nat.le_refl _⟩, fun i H v H' _ q y => ?_⟩
  obtain ⟨T, x, h1, h2, h3, h4⟩ := y
  exact ⟨T, .int (i : Nat), x, h1, h2, h3, rfl, h4 xs q⟩
end GA
/-! ## GC -/
namespace GA
open PySem L2
theorem Ts.of {H H' : Hp} (k : ∀ a u, H a = some u → (∀ xs, u ≠ .lst xs) → H' a = some u) : Ts H H' := fun a xs h => h.elim (fun h => .inl (k a _ h fun _ z => nomatch z)) fun ⟨ob, h⟩ => .inr ⟨ob, k a _ h fun _ z => nomatch z⟩
theorem Ts.updl {H : Hp} {D : Addr} {xs : List V} {u : HO} (h : H D = some (.lst xs)) : Ts H (upd H D u) := Ts.of fun a w e n => by
  rw [upd_ne (ne_of e h (n xs))]; exact e
theorem Ts.trans {H H1 H2 : Hp} (a : Ts H H1) (b : Ts H1 H2) : Ts H H2 := fun x xs h => b x xs (a x xs h)
section
variable {K : PySem.W.Frag} {J : It} {n : Nat} {Gd : Hp → Prop} {Y : Nat → Hp → V → Hp → Prop} {o : Option (Addr × Addr)} {H1 : Hp} {D : Addr} {g : TG} {tt : TT} {te : TE} {vs : List Nat} {σ : L2.St} {Qd : Hp → Prop}
/-- a comprehension: what it has made as data; Pv by the turn, the data, the heap -/
theorem lc_data (wk : Walk J n Gd Y) (hn : n ≤ 100000) (hD : H1 D = none) (hh : ∀ p, o = some p → Hand H1 p.1 p.2) (Pv : Nat → List PyData → Hp → Prop)
    (stab : ∀ i acc H xs l, Pv i acc H → H D = some (.lst xs) → Pv i acc (upd H D (.lst l)))
    (h0 : Pv 0 [] (upd H1 D (.lst [])))
    (hG : ∀ i acc H, G o H1 H → Pv i acc H → Gd H)
    (hs : ∀ i x acc H H', i < n → G o H1 H → Pv i acc H → Y i H x H' → ∀ (Qy : V → Hp → Prop) (Qn : Hp → Prop), (∀ y H4 e, G o H H4 → Dp K H4 y e → nl e = true → Pv (i + 1) (acc ++ [e]) H4 → Qy y H4) → (∀ H3, G o H H3 → Pv (i + 1) acc H3 → Qn H3) →
      g x (wipe σ vs) H' fun σ2 H2 => wipe σ2 vs = wipe σ vs ∧ tt σ2 H2 fun b H3 => if b = true then te σ2 H3 Qy else Qn H3)
    (hd : ∀ ds xs H', Pv n ds H' → G o H1 H' → H' D = some (.lst xs) → DpAll K H' xs ds → nls ds = true → Qd H') :
    ∃ W : Nat → Nat → Hp → Prop, (∃ m, W 0 m (upd H1 D (.lst []))) ∧ ∀ i m H, W i m H →
      (J.stop i H ∧ Qd H) ∨ (J.go i H ∧ ∃ Nx : Hp → Prop, (∀ H', Nx H' → ∃ m', m' < m ∧ W (i + 1) m' H') ∧ ∀ x H', J.yld i H x H' → g x (wipe σ vs) H' fun σ2 H2 => wipe σ2 vs = wipe σ vs ∧ tt σ2 H2 fun b H3 =>
        if b = true then te σ2 H3 fun y H4 => ∃ acc, H4 D = some (.lst acc) ∧ acc.length < sizeLine ∧ Nx (upd H4 D (.lst (acc ++ [y]))) else Nx H3) := by
  have offD : ∀ p, o = some p → D ≠ p.1 := fun p e => (hh p e).ne hD
  refine lc_it wk (fun i H => ∃ ds xs, G o H1 H ∧ Pv i ds H ∧ H D = some (.lst xs) ∧ DpAll K H xs ds ∧ nls ds = true ∧ xs.length ≤ i) ?_ ?_ ?_ ?_
  · exact ⟨[], [], (G.refl).mut hD hh, h0, upd_same, .nil, rfl, Nat.le_refl _⟩
  · rintro i H _ ⟨ds, xs, q1, q2, _⟩
    exact hG i ds H q1 q2
  · rintro i x H H' hi ⟨ds, xs, q1, q2, q3, q4, q5, q6⟩ y
    have keepD : ∀ {H4 : Hp}, G o H H4 → H4 D = some (.lst xs) := fun g4 => g4.keep D _ offD q3
    refine hs i x ds H H' hi q1 q2 y _ _ (fun v H4 e g4 he ne hp => ?_) fun H3 g3 hp => ⟨ds, xs, q1.trans g3, hp, keepD g3, dpAll_t g3.tups _ _ q5 q4, q5, by omega⟩
    have hD4 := keepD g4
    have t4 : Ts H4 (upd H4 D (.lst (xs ++ [v]))) := Ts.updl hD4
    refine ⟨xs, hD4, Nat.lt_of_le_of_lt (by omega : xs.length ≤ 100000) (by decide), ds ++ [e], xs ++ [v], (q1.trans g4).mut hD hh, stab _ _ _ _ _ hp hD4, upd_same, ?_, ?_, ?_⟩
    · exact DpAll.app (dpAll_t (g4.tups.trans t4) _ _ q5 q4) (DpAll.one (dp_t t4 e v ne he))
    · rw [nls_iff] at q5 ⊢
      intro d hd
      rcases List.mem_append.mp hd with z | z
      · exact q5 d z
      · have : d = e := by simpa using z
        rw [this]; exact ne
    · rw [List.length_append, List.length_singleton]; omega
  · rintro H ⟨ds, xs, q1, q2, q3, q4, q5, _⟩
    exact hd ds xs H q2 q1 q3 q4 q5
/-- one whose items are told by their places -/
theorem lc_pure (wk : Walk J n Gd Y) (hn : n ≤ 100000) (hD : H1 D = none) (hh : ∀ p, o = some p → Hand H1 p.1 p.2) (f : Nat → Option PyData)
    (hG : ∀ H, G o H1 H → Gd H)
    (hs : ∀ i x H H', i < n → G o H1 H → Y i H x H' → ∀ (Qy : V → Hp → Prop) (Qn : Hp → Prop), (∀ y H4 e, G o H H4 → Dp K H4 y e → nl e = true → f i = some e → Qy y H4) → (∀ H3, G o H H3 → f i = none → Qn H3) →
      g x (wipe σ vs) H' fun σ2 H2 => wipe σ2 vs = wipe σ vs ∧ tt σ2 H2 fun b H3 => if b = true then te σ2 H3 Qy else Qn H3)
    (hd : ∀ xs H', G o H1 H' → H' D = some (.lst xs) → DpAll K H' xs ((List.range n).filterMap f) → nls ((List.range n).filterMap f) = true → Qd H') :
    ∃ W : Nat → Nat → Hp → Prop, (∃ m, W 0 m (upd H1 D (.lst []))) ∧ ∀ i m H, W i m H →
      (J.stop i H ∧ Qd H) ∨ (J.go i H ∧ ∃ Nx : Hp → Prop, (∀ H', Nx H' → ∃ m', m' < m ∧ W (i + 1) m' H') ∧ ∀ x H', J.yld i H x H' → g x (wipe σ vs) H' fun σ2 H2 => wipe σ2 vs = wipe σ vs ∧ tt σ2 H2 fun b H3 =>
        if b = true then te σ2 H3 fun y H4 => ∃ acc, H4 D = some (.lst acc) ∧ acc.length < sizeLine ∧ Nx (upd H4 D (.lst (acc ++ [y]))) else Nx H3) := by
  refine lc_data (K := K) wk hn hD hh (fun i acc _ => acc = (List.range i).filterMap f) (fun _ _ _ _ _ h _ => h) rfl (fun _ _ H q _ => hG H q) ?_ ?_
  · rintro i x acc H H' hi q1 rfl y Qy Qn ky kn
    refine hs i x H H' hi q1 y Qy Qn (fun y H4 e g4 he ne hf => ky y H4 e g4 he ne ?_) fun H3 g3 hf => kn H3 g3 ?_
    · rw [List.range_succ, List.filterMap_append]; simp [hf]
    · rw [List.range_succ, List.filterMap_append]; simp [hf]
  · rintro ds xs H' rfl q1 q2 q3 q4
    exact hd xs H' q1 q2 q3 q4
end
theorem G.at_hd {H0 H' : Hp} {hd c : Addr} (x : Hand H0 hd c) (E : ∀ a, a ≠ hd → H' a = H0 a) {i b m k : Int} (h : H' hd = some (.lst [.ref c, .int i, .int b, .int m, .int k])) (hi : 0 ≤ i) : G (some (hd, c)) H0 H' ∧ Hand H' hd c := by
  obtain ⟨n, ⟨ns, h1⟩, i0, b0, m0, k0, h2, h3⟩ := x
  have hh : Hand H' hd c := ⟨n, ⟨ns, by rw [E c n]; exact h1⟩, i, b, m, k, h, hi⟩
  refine ⟨⟨fun a u z e => ?_, fun a xs e => ?_, fun p e _ => ?_⟩, hh⟩
  · rw [E a (z _ rfl)]; exact e
  · have na : a ≠ hd := by
      rcases e with e | ⟨ob, e⟩
      · exact ne_of e h2 (by intro z; cases z)
      · exact ne_of e h2 (by intro z; cases z)
    rcases e with e | ⟨ob, e⟩
    · exact .inl (by rw [E a na]; exact e)
    · exact .inr ⟨ob, by rw [E a na]; exact e⟩
  · cases e; exact hh
theorem mem_cutV {xs : List V} {lo hi : Option Int} {v : V} (h : v ∈ cutV xs lo hi) : v ∈ xs := by
  unfold cutV at h
  exact List.mem_of_mem_drop (List.mem_of_mem_take h)
theorem ints_of {xs : List V} (h : ∀ v ∈ xs, ∃ n : Int, v = .int n) : ∃ ns : List Int, xs = ns.map V.int := by
  induction xs with
  | nil => exact ⟨[], rfl⟩
  | cons x xs ih =>
    obtain ⟨n, rfl⟩ := h x List.mem_cons_self
    obtain ⟨ns, rfl⟩ := ih fun v hv => h v (List.mem_cons_of_mem _ hv)
    exact ⟨n :: ns, rfl⟩
/-! new objects, told by what they leave -/
theorem PE.weak {X : Cx} {e : Expr} {t t' : TE} (h : PE X e t) (w : ∀ σ H Q, t' σ H Q → t σ H Q) : PE X e t' := ⟨fun pins s σ H Q I q => h.run pins s σ H Q I (w σ H Q q)⟩
theorem CallR.weak {X : Cx} {f : Value} {r r' : List V → Hp → VK → Prop} (h : CallR X f r) (w : ∀ xs H Q, r' xs H Q → r xs H Q) : CallR X f r' := fun pins s σ H xs us Q I rv q => h pins s σ H xs us Q I rv (w xs H Q q)
theorem OpR.weak {X : Cx} {f : Value → Value → Sem Value} {r r' : R2} (h : OpR X f r) (w : ∀ x y H Q, r' x y H Q → r x y H Q) : OpR X f r' := fun pins s σ H x y v u Q I r1 r2 q => h pins s σ H x y v u Q I r1 r2 (w x y H Q q)
theorem SlR.weak {X : Cx} {r r' : V → Option Int → Option Int → Hp → VK → Prop} (h : SlR X r) (w : ∀ x l u H Q, r' x l u H Q → r x l u H Q) : SlR X r' := fun pins s σ H x v vl vu lo hi sl Q I r1 hs pl pu q => h pins s σ H x v vl vu lo hi sl Q I r1 hs pl pu (w x lo hi H Q q)
/-- for each new object u at p: F p H2 -/
def New (H : Hp) (u : HO) (F : Addr → Hp → Prop) : Prop := ∀ p H2, H p = none → (∀ o, G o H H2) → H2 p = some u → F p H2
theorem New.go {H : Hp} {u : HO} {F : Addr → Hp → Prop} (h : New H u F) {p : Addr} (hp : H p = none) : F p (upd H p u) := h p _ hp (fun _ => G.alloc hp) upd_same
def tTupN (t : TA) : TE := fun σ H Q => t σ H fun xs H1 => xs.length ≤ sizeLine ∧ New H1 (.tup xs) fun p H2 => Q (.ref p) H2
def tLstN (t : TA) : TE := fun σ H Q => t σ H fun xs H1 => xs.length ≤ sizeLine ∧ New H1 (.lst xs) fun p H2 => Q (.ref p) H2
section
variable {X : Cx} {es : List Expr} {t : TA} {pos : Pos}
theorem pe_tupN {x1} (h : PA X es t) : PE X (.Tuple es x1 pos) (tTupN t) := by
  have h' : PA X es (fun σ H QA => t σ H QA) := h
  refine ⟨fun pins s σ H Q I q => ?_⟩
  have hm : PA X es (fun σ H QA => t σ H (fun xs H1 => xs.length ≤ sizeLine ∧ New H1 (.tup xs) fun p H2 => Q (.ref p) H2) ∧ ∀ xs H1, (xs.length ≤ sizeLine ∧ New H1 (.tup xs) fun p H2 => Q (.ref p) H2) → QA xs H1) :=
    ⟨fun pos pins s σ H QA I q => wpAny_mono (h.run pos pins s σ H _ I q.1) (fun us s1 ⟨vs, H1, I1, r, z⟩ => ⟨vs, H1, I1, r, q.2 vs H1 z⟩) fun _ _ z => z⟩
  exact (pe_tup hm).run pins s σ H Q I ⟨q, fun xs H1 z => ⟨z.1, fun p hp => z.2.go hp⟩⟩
theorem pe_lstN (h : PA X es t) : PE X (.List es pos) (tLstN t) := by
  refine ⟨fun pins s σ H Q I q => ?_⟩
  have hm : PA X es (fun σ H QA => t σ H (fun xs H1 => xs.length ≤ sizeLine ∧ New H1 (.lst xs) fun p H2 => Q (.ref p) H2) ∧ ∀ xs H1, (xs.length ≤ sizeLine ∧ New H1 (.lst xs) fun p H2 => Q (.ref p) H2) → QA xs H1) :=
    ⟨fun pos pins s σ H QA I q => wpAny_mono (h.run pos pins s σ H _ I q.1) (fun us s1 ⟨vs, H1, I1, r, z⟩ => ⟨vs, H1, I1, r, q.2 vs H1 z⟩) fun _ _ z => z⟩
  exact (pe_lst hm).run pins s σ H Q I ⟨q, fun xs H1 z => ⟨z.1, fun p hp => z.2.go hp⟩⟩
end
/-- tuple(a list): a new tuple; tuple(a tuple): itself -/
def rTupleN (K : PySem.W.Frag) : List V → Hp → VK → Prop := fun xs H Q => ∃ p ys, xs = [.ref p] ∧ ((SqL K H p ys ∧ New H (.tup ys) fun l H2 => Q (.ref l) H2) ∨ (SqT K H p ys ∧ Q (.ref p) H))
theorem call_tupleN {X : Cx} : CallR X (.type "tuple") (rTupleN X.K) := CallR.weak call_tuple_of fun xs H Q h => by
  obtain ⟨p, ys, e, h | h⟩ := h
  · exact ⟨p, ys, e, .inl ⟨h.1, fun l hl => h.2.go hl⟩⟩
  · exact ⟨p, ys, e, .inr h⟩
def rListN (K : PySem.W.Frag) : List V → Hp → VK → Prop := fun xs H Q => ∃ p ys, xs = [.ref p] ∧ (SqL K H p ys ∨ SqT K H p ys) ∧ New H (.lst ys) fun l H2 => Q (.ref l) H2
theorem call_listN {X : Cx} : CallR X (.type "list") (rListN X.K) := CallR.weak call_list_of fun xs H Q h => by
  obtain ⟨p, ys, e, h, q⟩ := h
  exact ⟨p, ys, e, h, fun l hl => q.go hl⟩
theorem w_tupN {σ : L2.St} {H : Hp} {Q : VK} {tr : TA} (q : tr σ H fun xs H1 => xs.length ≤ sizeLine ∧ New H1 (.tup xs) fun p H2 => Q (.ref p) H2) : tTupN tr σ H Q := q
theorem w_lstN {σ : L2.St} {H : Hp} {Q : VK} {tr : TA} (q : tr σ H fun xs H1 => xs.length ≤ sizeLine ∧ New H1 (.lst xs) fun p H2 => Q (.ref p) H2) : tLstN tr σ H Q := q
/-- for up to so many items -/
theorem sz {n : Nat} (h : n ≤ 100000) : n ≤ sizeLine := Nat.le_trans h (by decide)
theorem filterMap_range_map {α β : Type} (l : List α) (f : α → β) : (List.range l.length).filterMap (fun i => (l[i]?).map f) = l.map f := by
  induction l with
  | nil => rfl
  | cons a l ih =>
    rw [List.length_cons, List.range_succ_eq_map, List.filterMap_cons, List.filterMap_map]
    simp only [List.getElem?_cons_zero, Option.map_some, List.map_cons]
    congr 1
theorem filterMap_range_fm {α β : Type} (l : List α) (f : α → Option β) : (List.range l.length).filterMap (fun i => (l[i]?).bind f) = l.filterMap f := by
  induction l with
  | nil => rfl
  | cons a l ih =>
    rw [List.length_cons, List.range_succ_eq_map, List.filterMap_cons, List.filterMap_map, List.filterMap_cons]
    simp only [List.getElem?_cons_zero, Option.bind_some]
    cases f a with
    | none => exact ih
    | some b => simp only []; congr 1
section
variable {K : PySem.W.Frag} {σ : L2.St} {H : Hp} {Q : VK} {D : Ends}
theorem w_lc {wi : TI} {g : TG} {tt : TT} {te : TE} {vs : List Nat} (q : wi σ H fun J H1 => ∀ D, H1 D = none → ∃ W : Nat → Nat → Hp → Prop, (∃ m, W 0 m (upd H1 D (.lst []))) ∧ ∀ i m H, W i m H →
  (J.stop i H ∧ Q (.ref D) H) ∨ (J.go i H ∧ ∃ Nx : Hp → Prop, (∀ H', Nx H' → ∃ m', m' < m ∧ W (i + 1) m' H') ∧ ∀ x H', J.yld i H x H' → g x (wipe σ vs) H' fun σ2 H2 => wipe σ2 vs = wipe σ vs ∧ tt σ2 H2 fun b H3 =>
    if b = true then te σ2 H3 fun y H4 => ∃ acc, H4 D = some (.lst acc) ∧ acc.length < sizeLine ∧ Nx (upd H4 D (.lst (acc ++ [y]))) else Nx H3)) : tLc wi g tt te vs σ H Q := q
theorem w_nt {A B : Prop} (q : B) : if (!true) = true then A else B := q
theorem w_nf {A B : Prop} (q : A) : if (!false) = true then A else B := q
theorem w_iteE {b : Bool} {A B : Prop} (e : b = true) (q : A) : if b = true then A else B := by rw [if_pos e]; exact q
theorem w_iteN {b : Bool} {A B : Prop} (e : b = false) (q : B) : if b = true then A else B := by rw [e]; exact q
theorem w_isN {te : TE} (q : te σ H fun x H1 => Q (.bl (decide (x = .non))) H1) : tIsN te σ H Q := q
theorem w_notN {te : TE} (q : te σ H fun x H1 => Q (.bl (!decide (x = .non))) H1) : tNotN te σ H Q := q
theorem w_seqM {ts tu : TS} (M : L2.St → Hp → Prop) (h1 : ∀ N : L2.St → Hp → Prop, (∀ σ' H', M σ' H' → N σ' H') → ts { D with nx := N } σ H) (h2 : ∀ σ' H', M σ' H' → tu D σ' H') : tSeq ts tu D σ H := h1 _ h2
theorem w_make {C : Addr} {sp : Sp} {E : XK} {tr : TA} (q : tr σ H fun vs H1 => ∀ x dx, H1 x = none → H1 dx = none → dx ≠ x → sp (.ref x :: (vs ++ [])) (upd (upd H1 dx (.own x)) x (.ins C dx [])) (fun v H2 => v = .non ∧ Q (.ref x) H2) E) : tMake C sp [] E tr σ H Q := q
theorem w_yes {QB : Bool → Hp → Prop} (q : QB true H) : tYes σ H QB := q
theorem w_for {wi : TI} {g : TG} {tb : TS} (q : wi σ H fun J H1 => ∃ W : Nat → Nat → L2.St → Hp → Prop, (∃ m, W 0 m σ H1) ∧ ∀ i m σ H, W i m σ H →
  (J.stop i H ∧ D.nx σ H) ∨ (J.go i H ∧ ∃ N : L2.St → Hp → Prop, (∀ σ' H', N σ' H' → ∃ m', m' < m ∧ W (i + 1) m' σ' H') ∧ ∀ x H', J.yld i H x H' → g x σ H' fun σ2 H2 => tb { D with nx := N, ct := N, bk := D.nx } σ2 H2)) : tFor wi g tb D σ H := q
variable {R : It → Hp → Prop} {ta : TA} {te : TE}
theorem w_rng1 (q : ta σ H fun vs H1 => ∃ j : Int, vs = [.int j] ∧ -(2 ^ 62) ≤ j ∧ j < 2 ^ 62 ∧ R (Itr 0 j.toNat) H1) : iRng1 ta σ H R := q
theorem w_rng2 (q : ta σ H fun vs H1 => ∃ i j : Int, vs = [.int i, .int j] ∧ (-(2 ^ 62) ≤ i ∧ i < 2 ^ 62 ∧ -(2 ^ 62) ≤ j ∧ j < 2 ^ 62) ∧ R (Itr i (j - i).toNat) H1) : iRng2 ta σ H R := q
theorem w_itup (q : te σ H fun x H1 => ∃ a, x = .ref a ∧ (∃ xs, SqT K H1 a xs) ∧ R (Itt K a) H1) : iTup K te σ H R := q
theorem w_ilist (q : te σ H fun x H1 => ∃ a, x = .ref a ∧ (∃ xs, SqL K H1 a xs) ∧ R (Itl K a) H1) : iList K te σ H R := q
theorem w_ienum (q : ta σ H fun vs H1 => ∃ a xs, vs = [.ref a] ∧ SqT K H1 a xs ∧ R (IteT K a) H1) : iEnumT K ta σ H R := q
theorem w_izip (q : ta σ H fun vs H1 => ∃ a b xs ys, vs = [.ref a, .ref b] ∧ ((SqL K H1 a xs ∧ SqL K H1 b ys ∧ R (Itz K a b) H1) ∨ (SqT K H1 a xs ∧ SqT K H1 b ys ∧ R (RZ.ItzT K a b) H1))) : RZ.iZipA K ta σ H R := q
theorem w_BM {T : String} {r : V → List V → Hp → VK → Prop} {to : TE} (q : to σ H fun x H1 => tyV K T x H1 ∧ ta σ H1 fun xs H2 => r x xs H2 Q) : tBM K T r to ta σ H Q := q
theorem w_BM0 {T : String} {r : V → List V → Hp → VK → Prop} {to : TE} (q : to σ H fun x H1 => tyV K T x H1 ∧ r x [] H1 Q) : tBM0 K T r to σ H Q := q
theorem i_BM {l : Addr} {xs : List V} {F : Prop} (h : H l = some (.lst xs)) (q : F) : tyV K "list" (.ref l) H ∧ F := ⟨.inl ⟨rfl, _, SqL.of h⟩, q⟩
theorem r_app {l : Addr} {xs : List V} {y : V} (h : H l = some (.lst xs)) (hz : xs.length ≤ 90000) (q : Q .non (upd H l (.lst (xs ++ [y])))) : rAppend (.ref l) [y] H Q := ⟨l, xs, y, rfl, rfl, h, Nat.lt_of_le_of_lt hz (by decide), q⟩
theorem i_rng1 {F : Int → Prop} {j : Int} (h1 : 0 ≤ j) (h2 : j ≤ 100000) (q : F j) : ∃ k : Int, [V.int j] = [.int k] ∧ -(2 ^ 62) ≤ k ∧ k < 2 ^ 62 ∧ F k := ⟨j, rfl, by omega, by omega, q⟩
theorem i_rng2 {F : Int → Int → Prop} {i j : Int} (h : -100000 ≤ i ∧ i ≤ 100000 ∧ -100000 ≤ j ∧ j ≤ 100000) (q : F i j) : ∃ k l : Int, [V.int i, V.int j] = [.int k, .int l] ∧ (-(2 ^ 62) ≤ k ∧ k < 2 ^ 62 ∧ -(2 ^ 62) ≤ l ∧ l < 2 ^ 62) ∧ F k l := ⟨i, j, rfl, by omega, q⟩
theorem i_tup {F : Addr → Prop} {a : Addr} {xs : List V} (h : SqT K H a xs) (q : F a) : ∃ b, V.ref a = .ref b ∧ (∃ xs, SqT K H b xs) ∧ F b := ⟨a, rfl, ⟨xs, h⟩, q⟩
theorem i_list {F : Addr → Prop} {a : Addr} {xs : List V} (h : SqL K H a xs) (q : F a) : ∃ b, V.ref a = .ref b ∧ (∃ xs, SqL K H b xs) ∧ F b := ⟨a, rfl, ⟨xs, h⟩, q⟩
theorem i_enum {F : Addr → Prop} {a : Addr} {xs : List V} (h : SqT K H a xs) (q : F a) : ∃ (b : Addr) (ys : List V), [V.ref a] = [.ref b] ∧ SqT K H b ys ∧ F b := ⟨a, xs, rfl, h, q⟩
end
end GA
/-! ## GD -/
namespace GA
open PySem L2
/-! ### data within data -/
def rInDT (K : PySem.W.Frag) : R2 := fun x y H Q => ∃ d ds, Dp K H x d ∧ Dp K H y (.tuple ds) ∧ SeqAt.shaped d = true ∧ SeqAt.shaped (.tuple ds) = true ∧ Q (.bl (ds.any fun z => PyData.eqv z d)) H
theorem op_inDT {X : Cx} (hu : X.A.units + 65 < cLine) : OpR X (compareOp .In) (rInDT X.K) := by
  intro pins s σ H x y v u Q I rx ry h
  obtain ⟨d, ds, hd, he, sd, se, q⟩ := h
  obtain ⟨as, r1⟩ := Dp.reads I d x v hd rx
  obtain ⟨bs, r2⟩ := Dp.reads I (.tuple ds) y u he ry
  exact SeqAt.in_tuple_reads r2 r1 (SeqAt.canLay_of_shaped se) (SeqAt.canLay_of_shaped sd) (PyProof.Rows.room_in_shaped sd hu) ⟨.bl _, H, I, rfl, q⟩
theorem u65 {k : Nat} {A : Around} (hr : Room k A) : A.units + 65 < cLine := by
  have := hr.un
  omega
theorem canAll {ds : List PyData} (h : ∀ d ∈ ds, d.canLay0 = true) : PyData.canLayAll0 ds = true := by
  induction ds with
  | nil => rfl
  | cons d ds ih => rw [PyData.canLayAll0, h d List.mem_cons_self, ih fun e he => h e (List.mem_cons_of_mem _ he)]; rfl
theorem depAll {n : Nat} {ds : List PyData} (h : ∀ d ∈ ds, d.depth ≤ n) : PyData.depthAll ds ≤ n := by
  induction ds with
  | nil => rw [PyData.depthAll]; exact Nat.zero_le _
  | cons d ds ih =>
    rw [PyData.depthAll]
    have h1 := h d List.mem_cons_self
    have h2 := ih fun e he => h e (List.mem_cons_of_mem _ he)
    omega
theorem sh_of {d : PyData} (h1 : d.canLay0 = true) (h2 : d.depth ≤ 64) : SeqAt.shaped d = true := by
  unfold SeqAt.shaped
  rw [h1, decide_eq_true h2]; rfl
theorem dep_tup {n : Nat} {ds : List PyData} (h : ∀ d ∈ ds, d.depth ≤ n) : (PyData.tuple ds).depth ≤ n + 1 := by
  rw [PyData.depth]
  have := depAll h
  omega
theorem can_tup {ds : List PyData} (h : ∀ d ∈ ds, d.canLay0 = true) : (PyData.tuple ds).canLay0 = true := by
  rw [PyData.canLay0]; exact canAll h
theorem can_int {n : Int} : (PyData.int n).canLay0 = true := by simp [PyData.canLay0]
theorem dep_int {n : Int} : (PyData.int n).depth = 0 := by simp [PyData.depth]
theorem can_dI (ns : List Int) : (dI ns).canLay0 = true := can_tup fun d h => by
  obtain ⟨n, _, rfl⟩ := List.mem_map.mp h
  exact can_int
theorem dep_dI (ns : List Int) : (dI ns).depth ≤ 1 := dep_tup (n := 0) fun d h => by
  obtain ⟨n, _, rfl⟩ := List.mem_map.mp h
  rw [dep_int]; exact Nat.le_refl _
theorem can_dP (w : Int × Int) : (dP w).canLay0 = true := can_dI [w.1, w.2]
theorem dep_dP (w : Int × Int) : (dP w).depth ≤ 1 := dep_dI [w.1, w.2]
theorem can_dW (ws : List (Int × Int)) : (dW ws).canLay0 = true := can_tup fun d h => by
  obtain ⟨n, _, rfl⟩ := List.mem_map.mp h
  exact can_dP n
theorem dep_dW (ws : List (Int × Int)) : (dW ws).depth ≤ 2 := dep_tup (n := 1) fun d h => by
  obtain ⟨n, _, rfl⟩ := List.mem_map.mp h
  exact dep_dP n
theorem sh_dI (ns : List Int) : SeqAt.shaped (dI ns) = true := sh_of (can_dI ns) (Nat.le_trans (dep_dI ns) (by decide))
theorem sh_dP (w : Int × Int) : SeqAt.shaped (dP w) = true := sh_of (can_dP w) (Nat.le_trans (dep_dP w) (by decide))
theorem sh_dW (ws : List (Int × Int)) : SeqAt.shaped (dW ws) = true := sh_of (can_dW ws) (Nat.le_trans (dep_dW ws) (by decide))
theorem eqv_int {i j : Int} : PyData.eqv (.int i) (.int j) = decide (i = j) := by
  rw [PyData.eqv]; exact Bool.beq_eq_decide_eq i j
theorem eqvAll_map {α : Type} [DecidableEq α] {f : α → PyData} (h : ∀ x y, PyData.eqv (f x) (f y) = decide (x = y)) : ∀ (xs ys : List α), PyData.eqvAll (xs.map f) (ys.map f) = decide (xs = ys)
  | [], [] => by simp [PyData.eqvAll]
  | [], y :: ys => by simp [PyData.eqvAll]
  | x :: xs, [] => by simp [PyData.eqvAll]
  | x :: xs, y :: ys => by
    rw [List.map_cons, List.map_cons, PyData.eqvAll, h, eqvAll_map h xs ys]
    simp only [List.cons.injEq]
    by_cases h1 : x = y <;> by_cases h2 : xs = ys <;> simp [h1, h2]
theorem eqv_dI (ns ms : List Int) : PyData.eqv (dI ns) (dI ms) = decide (ns = ms) := by
  rw [PyData.eqv]; exact eqvAll_map (fun _ _ => eqv_int) ns ms
theorem eqv_dP (u v : Int × Int) : PyData.eqv (dP u) (dP v) = decide (u = v) := by
  have := eqv_dI [u.1, u.2] [v.1, v.2]
  have e : decide (([u.1, u.2] : List Int) = [v.1, v.2]) = decide (u = v) := by
    rw [decide_eq_decide]
    constructor
    · intro h
      injection h with h1 h2
      injection h2 with h2 _
      exact Prod.ext h1 h2
    · intro h; rw [h]
  rw [← e]; exact this
theorem eqv_dW (us ws : List (Int × Int)) : PyData.eqv (dW us) (dW ws) = decide (us = ws) := by
  rw [PyData.eqv]; exact eqvAll_map eqv_dP us ws
theorem any_dP (ws : List (Int × Int)) (u : Int × Int) : ((ws.map dP).any fun z => PyData.eqv z (dP u)) = decide (u ∈ ws) := by
  rw [List.any_map]
  have : (fun z => PyData.eqv z (dP u)) ∘ dP = fun z => decide (z = u) := by
    funext z; exact eqv_dP z u
  rw [this]
  induction ws with
  | nil => simp
  | cons w ws ih =>
    rw [List.any_cons, ih]
    by_cases h : w = u
    · simp [h]
    · have h' : ¬ u = w := fun e => h e.symm
      simp [h, h']
/-! the rules with the written part told: for a comprehension's block -/
section
variable {X : Cx}
theorem k_ix_tup (K : PySem.W.Frag) (hK : X.K = K := by rfl) : IxR X (rIxT K) := by subst hK; exact ix_tup
theorem k_ix_list (K : PySem.W.Frag) (hK : X.K = K := by rfl) : IxR X (rIxL K) := by subst hK; exact ix_list
theorem k_op_in_seq (K : PySem.W.Frag) (hK : X.K = K := by rfl) : OpR X (compareOp .In) (rIn K false) := by subst hK; exact op_in_seq
theorem k_op_notIn_seq (K : PySem.W.Frag) (hK : X.K = K := by rfl) : OpR X (compareOp .NotIn) (rIn K true) := by subst hK; exact op_notIn_seq
theorem k_call_isi (K : PySem.W.Frag) (hK : X.K = K := by rfl) : CallR X (.builtin "isinstance") (rIsi K) := by subst hK; exact call_isi
theorem k_call_isiT (K : PySem.W.Frag) (hK : X.K = K := by rfl) : CallR X (.builtin "isinstance") (rIsiT K) := by subst hK; exact call_isiT
theorem k_call_tupleN (K : PySem.W.Frag) (hK : X.K = K := by rfl) : CallR X (.type "tuple") (rTupleN K) := by subst hK; exact call_tupleN
theorem k_call_listN (K : PySem.W.Frag) (hK : X.K = K := by rfl) : CallR X (.type "list") (rListN K) := by subst hK; exact call_listN
theorem k_op_inDT (K : PySem.W.Frag) (hu : X.A.units + 65 < cLine) (hK : X.K = K := by rfl) : OpR X (compareOp .In) (rInDT K) := by subst hK; exact op_inDT hu
theorem k_op_eqD (K : PySem.W.Frag) (hu : X.A.units + 64 < cLine) (hK : X.K = K := by rfl) : OpR X (compareOp .Eq) (rEqD K) := by subst hK; exact op_eqD hu
theorem k_op_neD (K : PySem.W.Frag) (hu : X.A.units + 64 < cLine) (hK : X.K = K := by rfl) : OpR X (compareOp .NotEq) (rNeD K) := by subst hK; exact op_neD hu
theorem k_cr_all (K : PySem.W.Frag) (hc : X.calm = true) (hK : X.K = K := by rfl) : CallR X (.builtin "all") (rAll K) := by subst hK; exact cr_all hc
/-- len of a list or tuple -/
def rLenK (K : PySem.W.Frag) : List V → Hp → VK → Prop := fun xs H Q => ∃ p ys, xs = [.ref p] ∧ (SqL K H p ys ∨ SqT K H p ys) ∧ Q (.int ys.length) H
theorem k_call_len_seq (K : PySem.W.Frag) (hK : X.K = K := by rfl) : CallR X (.builtin "len") (rLenK K) := by subst hK; exact call_len_seq
theorem k_fld (K : PySem.W.Frag) {e : Expr} {f : Str} {pos : Pos} {ta : TE} (he : PE X e ta) (hb : attributeBase e f X.env (eval e X.env) = eval e X.env) (hK : X.K = K := by rfl) : PE X (.Attribute e f pos) (tFld K ta f) := by subst hK; exact pe_fld he hb
theorem k_pi_list (K : PySem.W.Frag) {tg l : Expr} {tl : TE} (hl : PE X l tl) (hK : X.K = K := by rfl) : PI X tg l (iList K tl) := by subst hK; exact pi_list hl
theorem k_pi_tup (K : PySem.W.Frag) {tg l : Expr} {tl : TE} (hl : PE X l tl) (hK : X.K = K := by rfl) : PI X tg l (iTup K tl) := by subst hK; exact pi_tup hl
end
end GA
/-! ## GE -/
namespace PyProof.Rows
open PySem
section
variable {prog : Program} {w : World} {A : Around} {E : Value → Shared → Prop} {s : Shared}
theorem ga_collect_tuple {l : Addr} {vs : List Value} {Q : List Value → Shared → Prop} (hl : s.heap.IsTuple l vs.toArray)
    (h : Q vs { s with heap := (s.heap.push (seqObj "list" #[] 0)).update s.heap.objs.size (Obj.mapSeq (· ++ vs.toArray)) }) (hsz : vs.length ≤ sizeLine := by size_fits) :
    wpAny (model prog w) A (collect (.ref l)) Q E s := by
  obtain ⟨o, ho, hc, n, hd⟩ := id hl
  unfold collect
  refine wpAny_bind (wpAny_runValue (codeAny_builtin entry_proto_collect' ?_))
  show wpAny _ _ (do again (.builtin "list.__iadd__" ⟨[← newList [], .ref l], []⟩)) _ _ s
  refine wpAny_bind (wpAny_newList (wpAny_pure ⟨Code.quiet_builtin _ (by decide +kernel), codeAny_builtin entry_list_iadd' ?_⟩))
  show wpAny _ _ (Builtin.List.listExtendWith (.ref s.heap.objs.size) (.ref l) (.ref s.heap.objs.size)) _ _ { s with heap := s.heap.push (seqObj "list" #[] 0) }
  unfold Builtin.List.listExtendWith
  have ho' : (s.heap.push (seqObj "list" #[] 0)).get? l = some o := Heap.get?_push_of_some _ ho
  refine wpAny_bind (wpAny_typeOf (T := "tuple") ⟨o, ho', hc⟩ ?_)
  have ht : (Value.type "tuple" == Value.type "tuple") = true := by rfl
  rw [if_pos (by rw [ht]; simp)]
  refine wpAny_bind (listItems_at ho' hd ?_)
  refine wpAny_bind (listItems_at (xs := #[]) (n := 0) (Heap.get?_push_size _ rfl) rfl ?_)
  rw [if_neg (by simp)]
  refine wpAny_bind (listUpdate_at (xs := #[]) (n := 0) (Heap.get?_push_size _ rfl) rfl ?_ (Nat.zero_le _) (by show (#[] ++ vs.toArray).size ≤ sizeLine + 1; simp only [Array.size_append, List.size_toArray, List.length_nil]; omega))
  refine wpAny_pure ?_
  show wpAny (model prog w) A (do
      let o ← load s.heap.objs.size
      match o.data with
      | .seq xs _ => pure xs.toList
      | _ => unsupported "internal:collect") Q E { s with heap := (s.heap.push (seqObj "list" #[] 0)).update s.heap.objs.size (Obj.mapSeq (· ++ vs.toArray)) }
  refine wpAny_bind (wpAny_load (get?_update_seq (Heap.get?_push_size _ rfl) _) ?_)
  show wpAny _ _ (pure ((#[] : Array Value) ++ vs.toArray).toList) Q E _
  rw [show ((#[] : Array Value) ++ vs.toArray).toList = vs by simp]
  exact wpAny_pure h
end
end PyProof.Rows
namespace SrtO
open PySem PyProof.Rows Srt
section
variable {prog : Program} {w : World} {A : Around} {E : Value → Shared → Prop} {s : Shared}
theorem ga_sorted_ordT {l : Addr} {vs : List Value} {ltv : Value → Value → Bool} {Q : Value → Shared → Prop} (O : Swo ltv) (hl : s.heap.IsTuple l vs.toArray) (hz : vs.length ≤ sizeLine)
    (hS : 2 ≤ vs.length → ∀ (h₁ : Heap) (a : Addr), h₁.get? a = some (seqObj "list" vs.toArray 0) → (∀ b o, s.heap.get? b = some o → b ≠ a ∧ h₁.get? b = some o) → SortableO prog w A.in1.in1 { s with heap := h₁ } a vs ltv)
    (h : ∀ out : List Value, Srtd ltv out → Stb ltv out vs → Q (.ref (s.heap.objs.size + 1)) { s with heap := sortedAll s.heap vs out.toArray }) :
    wpAny (model prog w) A (call (.builtin "sorted") [.ref l]) Q E s := by
  refine Calls.call_function_entry kind_sorted plain_sorted entry_sorted (args_sorted1 _) ?_
  unfold Builtin.«sorted»
  refine wpAny_bind (m := checkCount "sorted" 1 1 _) (wpAny_pure ?_)
  refine wpAny_bind (ga_collect_tuple hl ?_ hz)
  refine wpAny_bind (wpAny_newList ?_ hz)
  have hsz : ((s.heap.push (seqObj "list" #[] 0)).update s.heap.objs.size (Obj.mapSeq (· ++ vs.toArray))).objs.size = s.heap.objs.size + 1 := by
    rw [Heap.size_update, size_push']
  have hoL : (((s.heap.push (seqObj "list" #[] 0)).update s.heap.objs.size (Obj.mapSeq (· ++ vs.toArray))).push (seqObj "list" vs.toArray 0)).get? (s.heap.objs.size + 1) = some (seqObj "list" vs.toArray 0) := by
    rw [← hsz]; exact Heap.get?_push_size _ rfl
  have keep : ∀ b o, s.heap.get? b = some o → b ≠ s.heap.objs.size + 1 ∧ (((s.heap.push (seqObj "list" #[] 0)).update s.heap.objs.size (Obj.mapSeq (· ++ vs.toArray))).push (seqObj "list" vs.toArray 0)).get? b = some o := fun b o q => by
    have hlt : b < s.heap.objs.size := Heap.lt_size q
    refine ⟨Nat.ne_of_lt (Nat.lt_succ_of_lt hlt), Heap.get?_push_of_some _ ?_⟩
    rw [Heap.get?_update_ne _ _ _ _ (Nat.ne_of_lt hlt)]
    exact Heap.get?_push_of_some _ q
  show wpAny _ _ _ _ _ { s with heap := ((s.heap.push (seqObj "list" #[] 0)).update s.heap.objs.size (Obj.mapSeq (· ++ vs.toArray))).push (seqObj "list" vs.toArray 0) }
  rw [hsz]
  refine wpAny_bind (wpAny_holding (wpAny_call_entry slot_list_sort ⟨_, hoL, rfl⟩ entry_list_sort (list_sort_ord O hoL hz (fun h2 => hS h2 _ _ hoL keep) fun out hs hb => ⟨_, rfl, ?_⟩) (args_list_sort _)))
  exact wpAny_pure ⟨_, rfl, h out hs hb⟩
end
end SrtO
namespace GA
open PySem PySem.Spec PyProof.Rows L2
/-- sorted(t), t a tuple of ints -/
def rSortedIT (K : PySem.W.Frag) : List V → Hp → VK → Prop := fun vs H Q => ∃ (a : Addr) (ns : List Int), vs = [V.ref a] ∧ SqT K H a (ns.map V.int) ∧
  ∀ (ns' : List Int), ns'.Perm ns → ns'.Pairwise (· ≤ ·) → New H (.lst (ns'.map V.int)) fun p H2 => Q (.ref p) H2
theorem cr_sortedIT {X : Cx} : CallR X (.builtin "sorted") (rSortedIT X.K) := by
  intro pins s σ H vs us Q I r h
  obtain ⟨a, ns, rfl, hs, q⟩ := h
  obtain ⟨its, rv, hl, hz⟩ := I.tuple hs
  rw [Vals.ref1 r]
  have hi := rv.ints
  refine SrtO.ga_sorted_ordT SrtO.swo_int hl (by rw [← rv.length]; exact hz) (fun h2 h₁ a' _ _ => SrtO.ints_sortable hi h2) fun out h1 h2 => ?_
  obtain ⟨k1, k2, k3⟩ := SrtO.ints_out hi h1 h2
  obtain ⟨ep, he'⟩ := PyProof.Rows.sortedAll_at s.heap its out.toArray
  have hlen : ((out.map SrtO.iv).map V.int).length ≤ sizeLine := by
    rw [List.length_map, k2.length_eq]
    rw [List.length_map] at hz
    exact hz
  exact ⟨.ref _, upd H (s.heap.objs.size + 1) (.lst ((out.map SrtO.iv).map V.int)), I.laid (t' := s.toks) (fun _ _ => PyProof.Rows.sortedAll_old) (Nat.le_succ _) ⟨hlen, out, ep, vals_of_ints k1, he'⟩, rfl, (q _ k2 k3).go (I.hok.fresh (Nat.le_succ _))⟩
def rSortedIL (K : PySem.W.Frag) : List V → Hp → VK → Prop := fun vs H Q => ∃ (a : Addr) (ns : List Int), vs = [V.ref a] ∧ SqL K H a (ns.map V.int) ∧
  ∀ (ns' : List Int), ns'.Perm ns → ns'.Pairwise (· ≤ ·) → New H (.lst (ns'.map V.int)) fun p H2 => Q (.ref p) H2
theorem cr_sortedIL {X : Cx} : CallR X (.builtin "sorted") (rSortedIL X.K) := CallR.weak cr_sortedI fun xs H Q h => by
  obtain ⟨a, ns, e, h1, q⟩ := h
  exact ⟨a, ns, e, h1, fun ns' p k1 k2 hp => (q ns' k1 k2).go hp⟩
/-- sorted(d), d a dict with int keys -/
def rSortedDN : List V → Hp → VK → Prop := fun xs H Q => ∃ (a : Addr) (kvs : List (Key × V)) (ks : List Int), xs = [.ref a] ∧ H a = some (.dK kvs) ∧ kvs.map (·.1) = ks.map Sum.inl ∧ ks.length < 64 ∧
  ∀ (ns' : List Int), ns'.Perm ks → ns'.Pairwise (· ≤ ·) → New H (.lst (ns'.map V.int)) fun p H2 => Q (.ref p) H2
theorem cr_sortedDN {X : Cx} (hc : X.calm = true) : CallR X (.builtin "sorted") rSortedDN := CallR.weak (call_sortedDI hc) fun xs H Q h => by
  obtain ⟨a, kvs, ks, e, h1, h2, h3, q⟩ := h
  exact ⟨a, kvs, ks, e, .inl h1, h2, h3, fun ys p k1 k2 hp => (q ys k1 k2).go hp⟩
/-- list(range(..)) -/
def tLstRgN (te : L2.St → Hp → (Int → Int → Hp → Prop) → Prop) : TE := fun σ H Q => te σ H fun a b H1 => RgOk a b ∧ New H1 (.lst (rgV a b)) fun q H2 => Q (.ref q) H2
/-- a range's ends, told: whatever is wanted is wanted of less -/
def MoR (te : L2.St → Hp → (Int → Int → Hp → Prop) → Prop) : Prop := ∀ σ H F F', (∀ a b H1, F a b H1 → F' a b H1) → te σ H F → te σ H F'
theorem pe_listRgN {X : Cx} {e : Expr} {te : L2.St → Hp → (Int → Int → Hp → Prop) → Prop} {p pos : Pos} (hc : X.calm = true) (hg : Gl X "list") (hm : X.mg "list" = none) (he : PRg X e te) (mo : MoR te) (na : starEach [e] X.env = (false, eval e X.env) :: starEach [] X.env := by rfl) : PE X (.Call (.Name "list" p) [e] [] pos) (tLstRgN te) :=
  PE.weak (pe_listRg hc hg hm he na) fun σ H Q q => mo σ H _ _ (fun a b H1 h => ⟨h.1, fun q hq => h.2.go hq⟩) q
def MoE (te : TE) : Prop := ∀ σ H Q Q', (∀ v H1, Q v H1 → Q' v H1) → te σ H Q → te σ H Q'
theorem mo_var {i : Nat} : MoE (tVar i) := fun _ _ _ _ h ⟨v, e, q⟩ => ⟨v, e, h _ _ q⟩
theorem mo_rg1 {te : TE} (h : MoE te) : MoR (tRg1 te) := fun σ H F F' k q => h σ H _ _ (fun v H1 ⟨n, e, z⟩ => ⟨n, e, k _ _ _ z⟩) q
theorem mo_op {te tb : TE} {r : R2} (h : MoE te) (hb : MoE tb) (hr : ∀ x y H Q Q', (∀ v H1, Q v H1 → Q' v H1) → r x y H Q → r x y H Q') : MoE (tOp r te tb) := fun σ H Q Q' k q => h σ H _ _ (fun v H1 z => hb σ H1 _ _ (fun u H2 z => hr _ _ _ _ _ k z) z) q
theorem mo_fld {K : PySem.W.Frag} {te : TE} {f : Str} (h : MoE te) : MoE (tFld K te f) := fun σ H Q Q' k q => h σ H _ _ (fun v H1 ⟨a, C, dx, fs, v', e1, e2, e3, e4, e5, z⟩ => ⟨a, C, dx, fs, v', e1, e2, e3, e4, e5, k _ _ z⟩) q
section
variable {K : PySem.W.Frag} {σ : L2.St} {H : Hp} {Q : VK}
theorem w_lstRg {te : L2.St → Hp → (Int → Int → Hp → Prop) → Prop} (q : te σ H fun a b H1 => RgOk a b ∧ New H1 (.lst (rgV a b)) fun q H2 => Q (.ref q) H2) : tLstRgN te σ H Q := q
theorem w_rg1 {te : TE} {F : Int → Int → Hp → Prop} (q : te σ H fun x H1 => ∃ n, x = .int n ∧ F 0 n H1) : tRg1 te σ H F := q
end
end GA
/-! ## GF -/
namespace GA
open PySem PySem.Spec PyProof.Rows L2
def ltW (u v : Int × Int) : Prop := u.1 < v.1 ∨ (u.1 = v.1 ∧ u.2 < v.2)
def in64 (u : Int × Int) : Prop := (0 ≤ u.1 ∧ u.1 < 64) ∧ (0 ≤ u.2 ∧ u.2 < 64)
section
variable {K : PySem.W.Frag} {H : Hp}
theorem ks_of : ∀ {xs : List V} {us : List (Int × Int)}, DpAll K H xs (us.map dP) → ∃ ks : List (Addr × List Int), xs = (ks.map fun p => V.ref p.1) ∧ (∀ p ∈ ks, SqT K H p.1 (p.2.map V.int)) ∧ ks.map (·.2) = us.map fun u => [u.1, u.2]
  | _, [], .nil => ⟨[], rfl, (fun _ h => nomatch h), rfl⟩
  | _, u :: us, .cons h t => by
    obtain ⟨ks, rfl, h1, h2⟩ := ks_of t
    obtain ⟨a, rfl, ha⟩ := dp_dP h
    refine ⟨(a, [u.1, u.2]) :: ks, rfl, fun p hp => ?_, by rw [List.map_cons, h2]; rfl⟩
    rcases List.mem_cons.mp hp with e | hp
    · rw [e]; exact ha
    · exact h1 p hp
end
theorem dp_ks {K : PySem.W.Frag} {H : Hp} : ∀ (M : List (Addr × List Int)) (ws : List (Int × Int)), (∀ q ∈ M, SqT K H q.1 (q.2.map V.int)) → M.map (·.2) = (ws.map fun u => [u.1, u.2]) → DpAll K H (M.map fun q => V.ref q.1) (ws.map dP)
  | [], [], _, _ => .nil
  | [], _ :: _, _, e => by simp at e
  | _ :: _, [], _, e => by simp at e
  | q :: M, w :: ws, h, e => by
    rw [List.map_cons, List.map_cons] at e
    injection e with e1 e2
    refine .cons ?_ (dp_ks M ws (fun p hp => h p (List.mem_cons_of_mem _ hp)) e2)
    have z := h q List.mem_cons_self
    rw [e1] at z
    exact dp_ofP z
section
variable {X : Cx}
/-- set(l), l a list of pairs of ints -/
def rSetPN (K : PySem.W.Frag) (P : Program) (w : World) : List V → Hp → VK → Prop := fun vs H Q => ∃ (l : Addr) (xs : List V) (us : List (Int × Int)), vs = [V.ref l] ∧ SqL K H l xs ∧ DpAll K H xs (us.map dP) ∧ us.length < 64 ∧
  ∀ a L H2, H a = none → (∀ o, G o H H2) → H2 a = some (SetTO P w a L) → (∀ p ∈ L, SqT K H2 p.1 (p.2.map V.int)) → (∀ ns, ns ∈ L.map (·.2) ↔ ∃ u ∈ us, ns = [u.1, u.2]) → Q (.ref a) H2
theorem cr_setPN (hc : X.calm = true) (hu : X.A.units + 64 < cLine) : CallR X (.type "set") (rSetPN X.K X.prog X.w) := CallR.weak (cr_setOfT hc hu) fun vs H Q h => by
  obtain ⟨l, xs, us, e, hl, hd, hz, q⟩ := h
  obtain ⟨ks, rfl, h1, h2⟩ := ks_of hd
  have hz' : ks.length = us.length := by
    have := congrArg List.length h2
    simpa using this
  refine ⟨l, ks, e, hl, h1, by omega, fun a L ha s1 s2 => ?_⟩
  refine q a L _ ha (fun _ => G.alloc ha) upd_same (fun p hp => sqT_t ((G.alloc (o := none) ha).tups) (h1 p (s1 p hp))) fun ns => ?_
  have mem : ∀ ns, ns ∈ ks.map (·.2) ↔ ∃ u ∈ us, ns = [u.1, u.2] := fun ns => by
    rw [h2, List.mem_map]
    exact ⟨fun ⟨u, a, b⟩ => ⟨u, a, b.symm⟩, fun ⟨u, a, b⟩ => ⟨u, a, b.symm⟩⟩
  rw [← mem]
  constructor
  · intro h
    obtain ⟨p, hp, rfl⟩ := List.mem_map.mp h
    exact List.mem_map.mpr ⟨p, s1 p hp, rfl⟩
  · intro h
    obtain ⟨p, hp, rfl⟩ := List.mem_map.mp h
    exact s2 p hp
theorem code_lt {u v : Int × Int} (hu : in64 u) (hv : in64 v) (h : TS.code 64 [u.1, u.2] ≤ TS.code 64 [v.1, v.2]) : ltW u v ∨ u = v := by
  unfold in64 at hu hv
  rw [code_pair, code_pair] at h
  unfold ltW
  by_cases e : u.1 = v.1
  · by_cases e2 : u.2 = v.2
    · exact .inr (Prod.ext e e2)
    · exact .inl (.inr ⟨e, by omega⟩)
  · exact .inl (.inl (by omega))
/-- sorted(s), s a set of pairs of small ints -/
def rSortSN (K : PySem.W.Frag) (P : Program) (w : World) : List V → Hp → VK → Prop := fun vs H Q => ∃ (a : Addr) (L : List (Addr × List Int)) (us : List (Int × Int)), vs = [V.ref a] ∧ H a = some (SetTO P w a L) ∧ (∀ p ∈ L, SqT K H p.1 (p.2.map V.int)) ∧ (∀ ns, ns ∈ L.map (·.2) ↔ ∃ u ∈ us, ns = [u.1, u.2]) ∧ (∀ u ∈ us, in64 u) ∧
  ∀ ws : List (Int × Int), ws.Pairwise ltW → (∀ u, u ∈ ws ↔ u ∈ us) → ws.length < 64 → ∀ p H2 ys, H p = none → (∀ o, G o H H2) → H2 p = some (.lst ys) → DpAll K H2 ys (ws.map dP) → Q (.ref p) H2
theorem cr_sortSN (hc : X.calm = true) : CallR X (.builtin "sorted") (rSortSN X.K X.prog X.w) := CallR.weak (cr_sortedT hc) fun vs H Q h => by
  obtain ⟨a, L, us, e, ha, hk, hm, hb, q⟩ := h
  have get : ∀ p ∈ L, ∃ u ∈ us, p.2 = [u.1, u.2] := fun p hp => (hm p.2).mp (List.mem_map.mpr ⟨p, hp, rfl⟩)
  refine ⟨a, L, 2, 64, e, ha, hk, by decide, fun p hp => ?_, fun L' p pm nd few pw hp => ?_⟩
  · obtain ⟨u, hu, e⟩ := get p hp
    have b := hb u hu
    unfold in64 at b
    rw [e]
    refine ⟨rfl, ?_⟩
    intro n hn
    rcases List.mem_cons.mp hn with e | hn
    · subst e; exact ⟨b.1.1, b.1.2⟩
    · have : n = u.2 := by simpa using hn
      subst this; exact ⟨b.2.1, b.2.2⟩
  · have get' : ∀ p ∈ L', ∃ u ∈ us, p.2 = [u.1, u.2] := fun p hp => get p (pm.mem_iff.mp hp)
    -- the pairs in their order
    have ws_of : ∀ M : List (Addr × List Int), (∀ p ∈ M, p ∈ L') → ∃ ws : List (Int × Int), M.map (·.2) = (ws.map fun u => [u.1, u.2]) ∧ (∀ u ∈ ws, u ∈ us) := by
      intro M
      induction M with
      | nil => exact fun _ => ⟨[], rfl, (fun _ h => nomatch h)⟩
      | cons p M ih =>
        intro hM
        obtain ⟨ws, h1, h2⟩ := ih fun p hp => hM p (List.mem_cons_of_mem _ hp)
        obtain ⟨u, hu, e⟩ := get' p (hM p List.mem_cons_self)
        refine ⟨u :: ws, by rw [List.map_cons, List.map_cons, h1, e], fun v hv => ?_⟩
        rcases List.mem_cons.mp hv with z | z
        · rw [z]; exact hu
        · exact h2 v z
    obtain ⟨ws, e1, e2⟩ := ws_of L' fun _ h => h
    have len : L'.length = ws.length := by
      have := congrArg List.length e1
      simpa using this
    have inj : ∀ u v : Int × Int, ([u.1, u.2] : List Int) = [v.1, v.2] → u = v := fun u v h => by
      injection h with h1 h2
      injection h2 with h2 _
      exact Prod.ext h1 h2
    have pw2 : (L'.map (·.2)).Pairwise (fun x y => TS.code 64 x ≤ TS.code 64 y) := List.pairwise_map.mpr pw
    rw [e1] at pw2 nd
    have asc : ws.Pairwise ltW := by
      rw [List.pairwise_map] at pw2
      have nd' : ws.Nodup := (List.pairwise_map.mp nd).imp fun h e => h (by rw [e])
      exact (List.pairwise_iff_getElem.mpr fun i j hi hj hij => by
        have h1 := List.pairwise_iff_getElem.mp pw2 i j hi hj hij
        have h2 := List.pairwise_iff_getElem.mp nd' i j hi hj hij
        rcases code_lt (hb _ (e2 _ (List.getElem_mem hi))) (hb _ (e2 _ (List.getElem_mem hj))) h1 with z | z
        · exact z
        · exact absurd z h2)
    refine q ws asc (fun u => ⟨e2 u, fun hu => ?_⟩) (by omega) p _ _ hp (fun _ => G.alloc hp) upd_same ?_
    · have h1 : ([u.1, u.2] : List Int) ∈ L.map (·.2) := (hm _).mpr ⟨u, hu, rfl⟩
      have h2 : ([u.1, u.2] : List Int) ∈ L'.map (·.2) := (pm.map (·.2)).mem_iff.mpr h1
      rw [e1, List.mem_map] at h2
      obtain ⟨v, hv, e⟩ := h2
      rw [← inj _ _ e]; exact hv
    · have t : Ts H (upd H p (.lst (L'.map fun q => V.ref q.1))) := (G.alloc (o := none) hp).tups
      have hk' : ∀ q ∈ L', SqT X.K _ q.1 (q.2.map V.int) := fun q hq => sqT_t t (hk q (pm.mem_iff.mp hq))
      exact dp_ks L' ws hk' e1
/-- sorted(l), l a list of pairs of small ints -/
def rSortPN (K : PySem.W.Frag) : List V → Hp → VK → Prop := fun vs H Q => ∃ (a : Addr) (xs : List V) (us : List (Int × Int)), vs = [V.ref a] ∧ SqL K H a xs ∧ DpAll K H xs (us.map dP) ∧ us.length < 64 ∧ (∀ u ∈ us, in64 u) ∧
  ∀ us' : List (Int × Int), us'.Perm us → us'.Pairwise (fun u v => ltW u v ∨ u = v) → ∀ p H2 ys, H p = none → (∀ o, G o H H2) → H2 p = some (.lst ys) → DpAll K H2 ys (us'.map dP) → Q (.ref p) H2
theorem cr_sortPN : CallR X (.builtin "sorted") (rSortPN X.K) := by
  classical
  intro pins s σ H vs us0 Q I r h
  obtain ⟨a, xs, us, rfl, hs, hd, hz, hb, q⟩ := h
  have uniq : ∀ {v : V} {u u' : Int × Int}, Dp X.K H v (dP u) → Dp X.K H v (dP u') → u = u' := fun {v u u'} h h' => by
    obtain ⟨a, rfl, ha⟩ := dp_dP h
    obtain ⟨a', e, ha'⟩ := dp_dP h'
    cases e
    have z := I.tuple_inj ha ha'
    injection z with z1 z2
    injection z2 with z2 _
    exact Prod.ext (V.int.inj z1) (V.int.inj z2)
  let f : V → Int × Int := fun v => if h : ∃ u, Dp X.K H v (dP u) then h.choose else (0, 0)
  have fv : ∀ {v : V} {u : Int × Int}, Dp X.K H v (dP u) → f v = u := fun {v u} h => by
    have hx : ∃ u, Dp X.K H v (dP u) := ⟨u, h⟩
    have : f v = hx.choose := dif_pos hx
    rw [this]
    exact uniq hx.choose_spec h
  have all : ∀ {ys : List V} {ws : List (Int × Int)}, DpAll X.K H ys (ws.map dP) → ws = ys.map f := by
    intro ys ws h
    induction ws generalizing ys with
    | nil => cases h; rfl
    | cons w ws ih =>
      cases h with
      | cons h t => rw [List.map_cons, fv h, ← ih t]
  have e0 := all hd
  have at_ : ∀ y ∈ xs, ∃ u ∈ us, Dp X.K H y (dP u) := fun y hy => by
    obtain ⟨i, hi⟩ := List.getElem?_of_mem hy
    obtain ⟨d, hd1, hd2⟩ := DpAll.get hd hi
    rw [List.getElem?_map] at hd1
    obtain ⟨u, hu, rfl⟩ := Option.map_eq_some_iff.mp hd1
    exact ⟨u, List.mem_of_getElem? hu, hd2⟩
  refine cr_sortT (d := 2) (B := 64) (by decide) pins s σ H _ us0 Q I r ⟨a, xs, rfl, hs, by rw [DpAll.length hd, List.length_map]; exact hz, fun x hx => ?_, fun ys p pm pw hp => ?_⟩
  · obtain ⟨u, hu, hx⟩ := at_ x hx
    obtain ⟨t, rfl, ht⟩ := dp_dP hx
    have b := hb u hu
    unfold in64 at b
    refine ⟨[u.1, u.2], ⟨t, rfl, ht⟩, rfl, ?_⟩
    intro n hn
    rcases List.mem_cons.mp hn with e | hn
    · subst e; exact ⟨b.1.1, b.1.2⟩
    · have : n = u.2 := by simpa using hn
      subst this; exact ⟨b.2.1, b.2.2⟩
  · have aty : ∀ y ∈ ys, ∃ u ∈ us, Dp X.K H y (dP u) := fun y hy => at_ y (pm.mem_iff.mp hy)
    have t : Ts H (upd H p (.lst ys)) := (G.alloc (o := none) hp).tups
    refine q (ys.map f) (by rw [e0]; exact pm.map f) ?_ p _ ys hp (fun _ => G.alloc hp) upd_same ?_
    · rw [List.pairwise_map]
      refine pw.imp_of_mem fun {y z} hy hz2 h => ?_
      obtain ⟨u, hu, h1⟩ := aty y hy
      obtain ⟨v, hv, h2⟩ := aty z hz2
      rw [fv h1, fv h2]
      obtain ⟨t1, rfl, k1⟩ := dp_dP h1
      obtain ⟨t2, rfl, k2⟩ := dp_dP h2
      exact code_lt (hb u hu) (hb v hv) (h _ _ ⟨t1, rfl, k1⟩ ⟨t2, rfl, k2⟩)
    · refine dpAll_t t _ _ (nls_pairs _) ?_
      clear pm pw hp t
      induction ys with
      | nil => exact .nil
      | cons y ys ih =>
        obtain ⟨u, hu, h1⟩ := aty y List.mem_cons_self
        refine .cons ?_ (ih fun y hy => aty y (List.mem_cons_of_mem _ hy))
        rw [fv h1]; exact h1
/-- t + u, tuples -/
def rCatN (K : PySem.W.Frag) : R2 := fun x y H Q => ∃ a b xs ys, x = .ref a ∧ y = .ref b ∧ SqT K H a xs ∧ SqT K H b ys ∧ xs.length + ys.length ≤ 100000 ∧ ∀ p H2, (∀ o, G o H H2) → SqT K H2 p (xs ++ ys) → Q (.ref p) H2
theorem op_catN : OpR X (binaryOp .Add) (rCatN X.K) := OpR.weak op_catA fun x y H Q h => by
  obtain ⟨a, b, xs, ys, e1, e2, h1, h2, hz, q⟩ := h
  refine ⟨a, b, xs, ys, e1, e2, h1, h2, sz hz, fun e => ?_, fun _ e => ?_, fun _ _ p hp => ?_⟩
  · subst e; exact q b H (fun _ => G.refl) h2
  · subst e; exact q a H (fun _ => G.refl) (by rw [List.append_nil]; exact h1)
  · exact q p _ (fun _ => G.alloc hp) (SqT.of upd_same)
end
end GA
/-! ## GG -/
namespace PySem.W
open PySem PySem.Spec PySem.Calls PyProof.Rows
open Builtin
section
variable {prog : Program} {w : World} {A : Around} {E : Value → Shared → Prop} {K : Frag} {x C L f : Addr} {h₀ hh : Heap} {g : Array GenState} {d : Drawn} {t : Nat} {os : OsState} {m : Str → Option Value} {ox : Obj} {od : Option Obj} {b tb : Value}
theorem ga_ifBound_ne {M : Model} {args : List Value} {Q : Option Value → Shared → Prop} (X : K.In hh) (I : InstAt hh x ox C od) (hs : findIn K (.ref C) "__ne__" = some (some (.builtin "object.__ne__")))
    (h : wpAny M A (call (.builtin "object.__ne__") (.ref x :: args)) (fun v => Q (some v)) E ⟨hh, g, d, t, os⟩) : wpAny M A (callSpecialIfBound? (.ref x) "__ne__" args) Q E ⟨hh, g, d, t, os⟩ := by
  simp only [callSpecialIfBound?, bindSpecialIfBound?]
  refine wpAny_holding (wpAny_bind (wpAny_bind (wpAny_bind (I.type.here ((looks_findIn X hs).here ?_)))))
  simp only [F.cmp_object.ne.bind]
  refine wpAny_bind (wpAny_askSetting (wpAny_ite ?_))
  have fin : wpAny M A (call (.builtin "object.__ne__") ([.ref x] ++ args) >>= fun v => pure (some v)) Q E ⟨hh, g, d, t, os⟩ :=
    wpAny_bind (wpAny_mono h (fun v s' h' => wpAny_pure h') fun _ _ h' => h')
  split
  · first
      | exact wpAny_bind (wpAny_pure (wpAny_pure fin))
      | exact wpAny_pure (wpAny_pure fin)
      | exact wpAny_pure fin
      | exact wpAny_bind (wpAny_pure fin)
  · first
      | exact wpAny_tryCatch (wpAny_bind (wpAny_pure (wpAny_pure fin)))
      | exact wpAny_tryCatch (wpAny_pure (wpAny_pure fin))
      | exact wpAny_tryCatch (wpAny_pure fin)
      | exact wpAny_tryCatch (wpAny_bind (wpAny_pure fin))
theorem ga_check_ne {M : Model} {rest : List Value} {Q : Unit → Shared → Prop} (X : K.In hh) (I : InstAt hh x ox C od) (hm : mroIn K C (.type "object") = some true) (ha : argsOk "object.__ne__" ⟨.ref x :: rest, []⟩) (hq : Q () ⟨hh, g, d, t, os⟩) :
    wpAny M A (checkBuiltinCall "object.__ne__" ⟨.ref x :: rest, []⟩) Q E ⟨hh, g, d, t, os⟩ := by
  simp only [checkBuiltinCall, F.cmpKind_ne, F.cmpSplit_ne]
  refine wpAny_bind ?_
  unfold isInstance
  refine wpAny_bind (I.type.here ((looks_mroIn X hm).here ?_))
  simp only [Bool.not_true, Bool.false_eq_true, if_false]
  cases hsig : Manifest.signature? "object.__ne__" with
  | none => exact wpAny_pure hq
  | some sig =>
    simp only [argsOk, hsig] at ha
    have h2 : Bind.checkArgs "object.__ne__" sig ⟨.ref x :: rest, []⟩ = pure () := ha
    show wpAny M A (Bind.checkArgs "object.__ne__" sig ⟨.ref x :: rest, []⟩) Q E _
    rw [h2]; exact wpAny_pure hq
theorem ga_ne_body (X : K.In hh) (I : InstAt hh x ox C od) (hs : findIn K (.ref C) "__eq__" = some (some (.ref f))) (hf : isFn K (.ref f) = true) (hu : A.units < cLine) {Q : Fin → Shared → Prop}
    (h : wpAny (model prog w) A (call (.ref f) [.ref x, b]) (fun v s' => ∃ r, v = .bool r ∧ Q (.done (.ret (.bool (!r)))) s') E ⟨hh, g, d, t, os⟩) :
    wpAny (model prog w) A (Builtin.«object.__ne__» ⟨[.ref x, b], []⟩) Q E ⟨hh, g, d, t, os⟩ := by
  unfold Builtin.«object.__ne__»
  repeat (first
    | with_reducible refine wpAny_cRoomFor hu ?_
    | (refine wpAny_bind (m := callSpecialIfBound? (.ref x) (Str.ofString "__eq__") [b])
        (ifBound_K X I hs hf (wpAny_mono h (fun r s' hr => by
          obtain ⟨q, rfl, hq⟩ := hr
          repeat (first | exact hq | exact wpAny_pure hq | exact wpAny_truthy_bool hq | (refine wpAny_bind (m := truthy (.bool _)) (wpAny_truthy_bool ?_)) | wp_step)) fun _ _ e => e)))
    | wp_step)
theorem ga_ne_K {Q : Value → Shared → Prop} (hu : A.units + 1 < cLine) (F : Fr h₀ L hh m) (X₀ : K.In h₀) (I : InstAt hh x ox C od) (hb : Looks (model prog w) hh (typeOf b) tb) (hn : notFirst K C tb = true)
    (hs : findIn K (.ref C) "__eq__" = some (some (.ref f))) (hf : isFn K (.ref f) = true) (hne : findIn K (.ref C) "__ne__" = some (some (.builtin "object.__ne__"))) (hm : mroIn K C (.type "object") = some true)
    (h : wpAny (model prog w) A.in1 (call (.ref f) [.ref x, b]) (fun v s' => ∃ r, v = .bool r ∧ Q (.bool (!r)) s') E ⟨hh, g, d, t, os⟩) : wpAny (model prog w) A (richCompare .NotEq (.ref x) b) Q E ⟨hh, g, d, t, os⟩ := by
  have X := X₀.keeps F.keep
  have one : wpAny (model prog w) A (tryCompare (.ref x) (cmpInfo .NotEq).2.1 b) (fun r s' => ∃ v, r = some v ∧ Q v s') E ⟨hh, g, d, t, os⟩ := by
    rw [cmpInfo_NotEq]
    unfold tryCompare
    refine wpAny_bind (ga_ifBound_ne X I hne (wpAny_call (codeAny_call_builtin PySem.F.cmp_object.ne.plain PySem.F.cmpEntry_ne
      (ga_check_ne X I hm (PySem.F.cmpArgs_ne _ _) (ga_ne_body (A := A.in1) X I hs hf hu (wpAny_mono h (fun v s' hv => ?_) fun _ _ e => e))))))
    obtain ⟨r, rfl, hq⟩ := hv
    first | exact ⟨r, rfl, wpAny_pure ⟨_, rfl, hq⟩⟩ | exact ⟨r, rfl, wpAny_pure (wpAny_pure ⟨_, rfl, hq⟩)⟩
  unfold richCompare
  simp only [oneThing_ref]
  refine wpAny_holding (wpAny_bind (wpAny_cRoomFor (Nat.lt_of_succ_lt hu) ?_))
  refine wpAny_bind (I.type.here (wpAny_bind (hb.here ?_)))
  split
  · rename_i q
    have e : subIn K tb (.ref C) = some false := by
      rcases Bool.or_eq_true_iff.mp hn with e | e
      · rw [beq_iff_eq.mp e] at q; simp at q
      · exact beq_iff_eq.mp e
    refine wpAny_bind ((looks_subIn X e).here ?_)
    simp only [Bool.false_eq_true, if_false]
    refine wpAny_bind (wpAny_mono one (fun r s' z => ?_) fun _ _ e => e)
    obtain ⟨v, rfl, hq⟩ := z
    exact wpAny_pure hq
  · refine wpAny_bind (wpAny_pure ?_)
    simp only [Bool.false_eq_true, if_false]
    refine wpAny_bind (wpAny_mono one (fun r s' z => ?_) fun _ _ e => e)
    obtain ⟨v, rfl, hq⟩ := z
    exact wpAny_pure hq
end
end PySem.W
namespace GA
open PySem PySem.Spec PyProof.Rows L2
section
variable {X : Cx} {n : Nat}
/-- x != y of two instances whose own == says True -/
def rNeG (D : Eqv) : R2 := fun x y H Q => D x y H ∧ ∀ H', Ext H H' → Q (.bl false) H'
theorem op_neG {CX : CXT} {C f : Addr} {fd : FuncData} {ps : List Str} {R : Addr → Addr → Hp → Prop} {E : XK} (F : FnOk X.prog X.w X.K X.mg X.base CX n f fd ps (spEq R))
    (hs : PySem.W.findIn X.K (.ref C) "__eq__" = some (some (.ref f))) (hf : PySem.W.isFn X.K (.ref f) = true) (hb : Binds X.K fd ps []) (hx : Passes CX X E)
    (hne : PySem.W.findIn X.K (.ref C) "__ne__" = some (some (.builtin "object.__ne__"))) (hm : PySem.W.mroIn X.K C (.type "object") = some true) (rm : Room (n + 1) X.A) : OpR X (compareOp .NotEq) (rNeG (DIns C R)) := by
  intro pins s σ H x y u v Q I rx ry hq
  obtain ⟨⟨a, b, dx, dy, fs, gs, rfl, rfl, ha, hb', hr⟩, q⟩ := hq
  cases rx
  cases ry
  obtain ⟨mA, J, _⟩ := ins_get I.hok ha
  obtain ⟨mB, J', _⟩ := ins_get I.hok hb'
  obtain ⟨od, J, _⟩ := J.look
  obtain ⟨od', J', _⟩ := J'.look
  obtain ⟨m, hF⟩ := I.fr
  have rm1 : Room n X.A.in1 := rm.in1
  show wpAny (model X.prog X.w) X.A (richCompare .NotEq (.ref a) (.ref b)) (EP X pins σ Q) X.xe s
  refine PySem.W.ga_ne_K (tb := .ref C) rm1.units0 hF I.ok.mod.kin J J'.type (by simp [PySem.W.notFirst]) hs hf hne hm ?_
  have hsp : spEq R [.ref a, .ref b] H (fun v H' => v = .bl true ∧ Ext H H') E := ⟨a, b, rfl, hr, fun H' e => ⟨rfl, e⟩⟩
  have e0 : Env0 X.prog X.w X.K X.mg X.base X.A.in1 X.stack s H := ⟨I.env0.frames, I.env0.mod, I.env0.bs, I.env0.bsz, I.env0.funs, I.env0.frf, I.env0.hok, I.env0.bare⟩
  have hl := F.len _ _ _ _ hsp
  have r2 : Vals [V.ref a, V.ref b] [Value.ref a, Value.ref b] := .cons rfl (.cons rfl .nil)
  refine wpAny_call (codeAny_mono (F.run X.A.in1 X.stack s H ⟨[.ref a, .ref b], []⟩ [.ref a, .ref b] [.ref a, .ref b] _ E rm1 e0 (by
    have := hb s [.ref a, .ref b] I.kIn (by simpa using hl)
    simpa using this) r2 hsp) fun r s' hq => ?_)
  cases r with
  | error e => exact hx pins σ H s e s' I hq
  | ok fl =>
    cases fl with
    | ret w =>
      obtain ⟨z, H', I', rz, ez, ex⟩ := I.after hq
      subst ez
      cases rz
      exact ⟨true, rfl, .bl false, H', I', rfl, q H' ex⟩
    | next => exact False.elim hq
    | brk => exact False.elim hq
    | cont => exact False.elim hq
end
end GA
/-! ## GH -/
namespace L2
open PySem PySem.Spec PyProof.Rows
/-- the set as it is laid, and the heap with it -/
abbrev eset (w : World) : Obj := { cls := .type "set", dict := none, data := .set #[] 0 (.fresh 0 0 (!w.params.followText "set-order")) }
abbrev eheap (w : World) (h : Heap) : Heap := h.push (eset w)
section
variable {P : Program} {w : World} {A : Around} {E : Value → Shared → Prop} {s : Shared}
theorem gone_above {h : Heap} {b : Addr} (hb : h.objs.size ≤ b) : h.get? b = none := by
  cases q : h.get? b with
  | none => rfl
  | some o => exact absurd (Heap.lt_size q) (Nat.not_lt.mpr hb)
/-- set(t), t a tuple whose items are tuples of ints -/
theorem ga_set_of_tuple {l : Addr} {its : Array Value} (ks : List (Addr × List Int)) {Q : Value → Shared → Prop} (quiet : A.handled = none) (hl : s.heap.IsTuple l its) (hit : its.toList = ks.map fun p => Value.ref p.1)
    (hk : ∀ p ∈ ks, IsT P w s.heap p.2 p.1) (few : ks.length < 64) (un : A.units + 3 < cLine)
    (q : ∀ (h' : Heap) (tk : Nat) L es ep t, SetTR P w h' s.heap.objs.size L es ep t → Got ks ks.length L → (∀ b o, s.heap.get? b = some o → h'.get? b = some o) → Q (.ref s.heap.objs.size) { s with heap := h', toks := tk }) :
    wpAny (model P w) A (call (.type "set") [.ref l]) Q E s := by
  have isz : its.size = ks.length := by simpa using congrArg List.length hit
  have C := F.called_set
  obtain ⟨c, tl, m1⟩ := C.mro
  have m2 := C.made
  have m3 := C.sub
  have m4 := C.notType
  have m5 := C.canCreate
  have m6 := F.typeCall_set_1 (.ref l)
  refine wpAny_call (codeAny_of_tree (?_ : wpAny _ _ (callAny (.type "set") _) _ _ _))
  refine wpAny_pure ⟨Code.quiet_builtin _ (by decide +kernel), codeAny_builtin F.entry_type_call ?_⟩
  rw [Around.under_plain (weight_type_call_type "set" [.ref l] []) rfl]
  repeat (any_goals (first | assumption | wp_step))
  refine codeAny_mono (code_set_led1 (.ref l) (E := E) (Q₁ := fun ob s1 => ob = .ref s.heap.objs.size ∧ s1 = { s with heap := eheap w s.heap }) ⟨rfl, rfl⟩) fun r s1 hr => ?_
  match r, hr with
  | .error e, hr => exact hr
  | .ok .next, hr => exact hr.elim
  | .ok .brk, hr => exact hr.elim
  | .ok .cont, hr => exact hr.elim
  | .ok (.ret ob), hr =>
    obtain ⟨e1, e2⟩ := hr
    subst e1 e2
    have at0 : (eheap w s.heap).get? s.heap.objs.size = some (eset w) := Heap.get?_push_size _ rfl
    have ty0 : Shared.TypeIs { s with heap := eheap w s.heap } (.ref s.heap.objs.size) "set" := ⟨_, at0, rfl⟩
    have m7 := C.init.lookup
    have m8 := C.init.bind (.ref s.heap.objs.size)
    repeat (any_goals (first | assumption | wp_step))
    refine codeAny_mono (codeAny_call_builtin (R := wants (fun r s2 => r = .none ∧ ∃ h' tk L es ep t, s2 = { s with heap := h', toks := tk } ∧ SetTR P w h' s.heap.objs.size L es ep t ∧ Got ks ks.length L ∧
      (∀ b o, s.heap.get? b = some o → h'.get? b = some o)) E) C.init.plain F.entry_set_init (check_set_init_1 ty0 ?_)) fun r2 s2 hr2 => ?_
    · have hl1 : (eheap w s.heap).IsTuple l its := hl.push _
      obtain ⟨⟨oc, od, odt, osl⟩, ho, e1, nl, e2⟩ := id hl1
      simp only at e1 e2
      subst e1 e2
      have lS : l < s.heap.objs.size := by
        obtain ⟨o, h, _⟩ := hl
        exact Heap.lt_size h
      have n1 := F.sub_tuple_set
      have n2 := F.sub_tuple_frozenset
      have n3 : (Value.type "tuple" == Value.type "dict") = false := by decide
      have z1 : (eheap w s.heap).objs.size = s.heap.objs.size + 1 := Heap.size_push ..
      have nI : l ≠ (eheap w s.heap).objs.size := by
        rw [z1]; exact Nat.ne_of_lt (Nat.lt_succ_of_lt lS)
      unfold Builtin.«set.__init__» noKeywords Builtin.Frozenset.updateFrom
      generalize hpi : pyIter = PI
      wp_walk
      subst hpi
      refine wpAny_pyIter_tuple hl1 (wpAny_bind (wpAny_runValue ?_))
      have val : ∀ (i : Nat) (v : Value), its[i]? = some v → ∃ p, ks[i]? = some p ∧ v = .ref p.1 := fun i v hv => by
        have z : (ks.map fun p => Value.ref p.1)[i]? = some v := by rw [← hit, Array.getElem?_toList]; exact hv
        rw [List.getElem?_map] at z
        obtain ⟨p, hp, e⟩ := Option.map_eq_some_iff.mp z
        exact ⟨p, hp, e.symm⟩
      refine set_update_tups ((Walks.tuple (by simp [quiet]) _ l nI its).toS) s.heap.objs.size ?f1 ks isz few val s.heap hk (gone_above (Nat.le_refl _)) ?f2 (by simp; omega) (its.size - 0) 0 _ (by omega) (Nat.zero_le _)
        ⟨⟨_, Heap.get?_push_size _ rfl, rfl, rfl⟩, hl1.push _⟩ (fun b o e => Heap.get?_push_of_some _ (Heap.get?_push_of_some _ e)) ?f3 ?f4
      case f1 =>
        rw [z1]
        simp only [List.mem_cons, List.not_mem_nil, or_false, not_or]
        exact ⟨Nat.ne_of_lt (Nat.lt_succ_self _), Nat.ne_of_gt lS⟩
      case f2 =>
        intro b hb
        refine gone_above ?_
        rw [List.mem_singleton.mp hb, z1]
        exact Nat.le_succ _
      case f3 => exact ⟨[], #[], 0, _, setTR_fresh (Heap.get?_push_of_some _ at0), Got.zero ks⟩
      case f4 =>
        rintro ⟨h', g2, d', tk', os'⟩ L es ep t mv R got kp
        obtain rfl : g2 = s.gens := mv.gens
        obtain rfl : d' = s.drawn := mv.drawn
        obtain rfl : os' = s.os := mv.os
        rw [isz] at got
        exact wpAny_pure (wpAny_pure ⟨rfl, h', tk', L, es, ep, t, rfl, R, got, kp⟩)
    · match r2, hr2 with
      | .error e, hr2 => exact hr2
      | .ok .next, hr2 => exact hr2.elim
      | .ok .brk, hr2 => exact hr2.elim
      | .ok .cont, hr2 => exact hr2.elim
      | .ok (.ret z), hr2 =>
        obtain ⟨e3, h', tk, L, es, ep, t, e4, R, got, kp⟩ := hr2
        subst e3 e4
        repeat (any_goals (first | assumption | wp_step))
        exact q _ _ _ _ _ _ R got kp
end
end L2
/-! ## GI -/
namespace GA
open PySem PySem.Spec PyProof.Rows L2
/-! ### a list of pairs being filled -/
def Fil (K : PySem.W.Frag) (o : Option (Addr × Addr)) (H0 H : Hp) (D : Addr) (us : List (Int × Int)) : Prop := G o H0 H ∧ ∃ xs, H D = some (.lst xs) ∧ DpAll K H xs (us.map dP)
section
variable {K : PySem.W.Frag} {o : Option (Addr × Addr)} {H0 H H1 H' : Hp} {D : Addr} {us : List (Int × Int)}
theorem back_none (g : G none H0 H1) (h : H1 D = none) : H0 D = none := by
  cases c : H0 D with
  | none => rfl
  | some u => rw [g.all _ _ c] at h; cases h
theorem Fil.nil (g : G o H0 H1) (h0 : H0 D = none) (hh : ∀ p, o = some p → Hand H0 p.1 p.2) : Fil K o H0 (upd H1 D (.lst [])) D [] := ⟨g.mut h0 hh, [], upd_same, .nil⟩
theorem Fil.g (f : Fil K o H0 H D us) (g : G o H H') (off : Off o D) : Fil K o H0 H' D us := by
  obtain ⟨g0, xs, h1, h2⟩ := f
  exact ⟨g0.trans g, xs, g.keep _ _ off h1, dpAll_t g.tups _ _ (nls_pairs us) h2⟩
theorem Fil.app (f : Fil K o H0 H D us) (h0 : H0 D = none) (hh : ∀ p, o = some p → Hand H0 p.1 p.2) {v : V} {u : Int × Int} (hv : Dp K H v (dP u)) (hz : us.length ≤ 90000) :
    ∃ acc, H D = some (.lst acc) ∧ acc.length < sizeLine ∧ Fil K o H0 (upd H D (.lst (acc ++ [v]))) D (us ++ [u]) := by
  obtain ⟨g0, xs, h1, h2⟩ := f
  have t : Ts H (upd H D (.lst (xs ++ [v]))) := Ts.updl h1
  have l2 := DpAll.length h2
  rw [List.length_map] at l2
  refine ⟨xs, h1, Nat.lt_of_le_of_lt (by omega : xs.length ≤ 90000) (by decide), g0.mut h0 hh, _, upd_same, ?_⟩
  rw [List.map_append]
  exact DpAll.app (dpAll_t t _ _ (nls_pairs us) h2) (DpAll.one (dp_t t _ _ (nl_dP u) hv))
end
/-! ### two for -/
section
variable {J J1 : It} {n n1 : Nat} {Gd G1 : Hp → Prop} {Y Y1 : Nat → Hp → V → Hp → Prop} {g g1 : TG} {tt tt1 : TT} {te : TE} {wi1 : TI} {vs vs1 : List Nat} {σ σ2 : L2.St} {H1 H4 : Hp} {D : Addr} {Qd Nx : Hp → Prop}
theorem lc2_it (w : Walk J n Gd Y) (Pv : Nat → Hp → Prop) (h0 : Pv 0 (upd H1 D (.lst []))) (hG : ∀ i H, i ≤ n → Pv i H → Gd H)
    (hs : ∀ i x H H', i < n → Pv i H → Y i H x H' → g x (wipe σ vs) H' fun σ2 H2 => wipe σ2 vs = wipe σ vs ∧ tt σ2 H2 fun b H3 =>
      if b = true then wi1 σ2 H3 fun J1 H4 => ∃ W1 : Nat → Nat → Hp → Prop, (∃ m, W1 0 m H4) ∧ ∀ j k H, W1 j k H →
        (J1.stop j H ∧ Pv (i + 1) H) ∨ (J1.go j H ∧ ∃ Nx1 : Hp → Prop, (∀ H', Nx1 H' → ∃ k', k' < k ∧ W1 (j + 1) k' H') ∧ ∀ x H', J1.yld j H x H' → g1 x (wipe σ2 vs1) H' fun σ3 H5 => wipe σ3 vs1 = wipe σ2 vs1 ∧ tt1 σ3 H5 fun b H6 =>
          if b = true then te σ3 H6 fun y H7 => ∃ acc, H7 D = some (.lst acc) ∧ acc.length < sizeLine ∧ Nx1 (upd H7 D (.lst (acc ++ [y]))) else Nx1 H6)
      else Pv (i + 1) H3) (hd : ∀ H, Pv n H → Qd H) :
    ∃ W : Nat → Nat → Hp → Prop, (∃ m, W 0 m (upd H1 D (.lst []))) ∧ ∀ i m H, W i m H →
      (J.stop i H ∧ Qd H) ∨ (J.go i H ∧ ∃ Nx : Hp → Prop, (∀ H', Nx H' → ∃ m', m' < m ∧ W (i + 1) m' H') ∧ ∀ x H', J.yld i H x H' → g x (wipe σ vs) H' fun σ2 H2 => wipe σ2 vs = wipe σ vs ∧ tt σ2 H2 fun b H3 =>
        if b = true then wi1 σ2 H3 fun J1 H4 => ∃ W1 : Nat → Nat → Hp → Prop, (∃ m, W1 0 m H4) ∧ ∀ j k H, W1 j k H →
          (J1.stop j H ∧ Nx H) ∨ (J1.go j H ∧ ∃ Nx1 : Hp → Prop, (∀ H', Nx1 H' → ∃ k', k' < k ∧ W1 (j + 1) k' H') ∧ ∀ x H', J1.yld j H x H' → g1 x (wipe σ2 vs1) H' fun σ3 H5 => wipe σ3 vs1 = wipe σ2 vs1 ∧ tt1 σ3 H5 fun b H6 =>
            if b = true then te σ3 H6 fun y H7 => ∃ acc, H7 D = some (.lst acc) ∧ acc.length < sizeLine ∧ Nx1 (upd H7 D (.lst (acc ++ [y]))) else Nx1 H6)
        else Nx H3) := by
  refine ⟨fun i m H => m = n - i ∧ i ≤ n ∧ Pv i H, ⟨n, by simp, Nat.zero_le _, h0⟩, ?_⟩
  rintro i m H ⟨rfl, hi, p⟩
  have q := hG i H hi p
  by_cases c : i < n
  · exact .inr ⟨w.goes i H c q, Pv (i + 1), fun H' p' => ⟨n - (i + 1), by omega, rfl, c, p'⟩, fun x H' y => hs i x H H' c p (w.yields i H x H' c q y)⟩
  · obtain rfl : i = n := by omega
    exact .inl ⟨w.stops H q, hd H p⟩
theorem in_it (w : Walk J1 n1 G1 Y1) (P1 : Nat → Hp → Prop) (h0 : P1 0 H4) (hG : ∀ j H, j ≤ n1 → P1 j H → G1 H)
    (hs : ∀ j x H H', j < n1 → P1 j H → Y1 j H x H' → g1 x (wipe σ2 vs1) H' fun σ3 H5 => wipe σ3 vs1 = wipe σ2 vs1 ∧ tt1 σ3 H5 fun b H6 =>
      if b = true then te σ3 H6 fun y H7 => ∃ acc, H7 D = some (.lst acc) ∧ acc.length < sizeLine ∧ P1 (j + 1) (upd H7 D (.lst (acc ++ [y]))) else P1 (j + 1) H6) (hd : ∀ H, P1 n1 H → Nx H) :
    ∃ W1 : Nat → Nat → Hp → Prop, (∃ m, W1 0 m H4) ∧ ∀ j k H, W1 j k H →
      (J1.stop j H ∧ Nx H) ∨ (J1.go j H ∧ ∃ Nx1 : Hp → Prop, (∀ H', Nx1 H' → ∃ k', k' < k ∧ W1 (j + 1) k' H') ∧ ∀ x H', J1.yld j H x H' → g1 x (wipe σ2 vs1) H' fun σ3 H5 => wipe σ3 vs1 = wipe σ2 vs1 ∧ tt1 σ3 H5 fun b H6 =>
        if b = true then te σ3 H6 fun y H7 => ∃ acc, H7 D = some (.lst acc) ∧ acc.length < sizeLine ∧ Nx1 (upd H7 D (.lst (acc ++ [y]))) else Nx1 H6) := by
  refine ⟨fun i m H => m = n1 - i ∧ i ≤ n1 ∧ P1 i H, ⟨n1, by simp, Nat.zero_le _, h0⟩, ?_⟩
  rintro i m H ⟨rfl, hi, p⟩
  have q := hG i H hi p
  by_cases c : i < n1
  · exact .inr ⟨w.goes i H c q, P1 (i + 1), fun H' p' => ⟨n1 - (i + 1), by omega, rfl, c, p'⟩, fun x H' y => hs i x H H' c p (w.yields i H x H' c q y)⟩
  · obtain rfl : i = n1 := by omega
    exact .inl ⟨w.stops H q, hd H p⟩
theorem w_lc2 {wi : TI} {Q : VK} (q : wi σ H1 fun J H1 => ∀ D, H1 D = none → ∃ W : Nat → Nat → Hp → Prop, (∃ m, W 0 m (upd H1 D (.lst []))) ∧ ∀ i m H, W i m H →
  (J.stop i H ∧ Q (.ref D) H) ∨ (J.go i H ∧ ∃ Nx : Hp → Prop, (∀ H', Nx H' → ∃ m', m' < m ∧ W (i + 1) m' H') ∧ ∀ x H', J.yld i H x H' → g x (wipe σ vs) H' fun σ2 H2 => wipe σ2 vs = wipe σ vs ∧ tt σ2 H2 fun b H3 =>
    if b = true then wi1 σ2 H3 fun J1 H4 => ∃ W1 : Nat → Nat → Hp → Prop, (∃ m, W1 0 m H4) ∧ ∀ j k H, W1 j k H →
      (J1.stop j H ∧ Nx H) ∨ (J1.go j H ∧ ∃ Nx1 : Hp → Prop, (∀ H', Nx1 H' → ∃ k', k' < k ∧ W1 (j + 1) k' H') ∧ ∀ x H', J1.yld j H x H' → g1 x (wipe σ2 vs1) H' fun σ3 H5 => wipe σ3 vs1 = wipe σ2 vs1 ∧ tt1 σ3 H5 fun b H6 =>
        if b = true then te σ3 H6 fun y H7 => ∃ acc, H7 D = some (.lst acc) ∧ acc.length < sizeLine ∧ Nx1 (upd H7 D (.lst (acc ++ [y]))) else Nx1 H6)
    else Nx H3)) : tLc2 wi g tt wi1 g1 tt1 te vs vs1 σ H1 Q := q
end
/-! ### a list or a tuple -/
def iSeq (K : PySem.W.Frag) (te : TE) : TI := fun σ H R => te σ H fun x H1 => ∃ a, x = .ref a ∧ (((∃ xs, SqL K H1 a xs) ∧ R (Itl K a) H1) ∨ ((∃ xs, SqT K H1 a xs) ∧ R (Itt K a) H1))
section
variable {X : Cx}
theorem pi_seq {tg l : Expr} {tl : TE} (hl : PE X l tl) : PI X tg l (iSeq X.K tl) := by
  refine ⟨fun pins s σ H R I h => ?_⟩
  refine thn (hl.run pins s σ H _ I h) fun v s1 ⟨x, H1, I1, r1, a, e, q1⟩ => ?_
  subst e
  cases r1
  rcases q1 with ⟨⟨xs, hq⟩, q⟩ | ⟨⟨xs, hq⟩, q⟩
  · obtain ⟨its, rv, p, _⟩ := I1.list hq
    refine wpAny_pyIter_list p.isList ⟨s1.heap.objs.size, [s1.heap.objs.size], _, _, H1, rfl, I1.kept (t' := s1.toks) fun b o e => Heap.get?_push_of_some _ e, turn_list a _, ⟨_, Heap.get?_push_size _ rfl, rfl, rfl⟩, fun b hb => ?_, q⟩
    obtain rfl : b = s1.heap.objs.size := by simpa using hb
    exact I1.fpOk (Nat.le_refl _) (I1.hok.fresh (Nat.le_refl _))
  · obtain ⟨its, rv, p, _⟩ := I1.tuple hq
    refine wpAny_pyIter_tuple p ⟨s1.heap.objs.size, [s1.heap.objs.size], _, _, H1, rfl, I1.kept (t' := s1.toks) fun b o e => Heap.get?_push_of_some _ e, turn_tuple a _, ⟨_, Heap.get?_push_size _ rfl, rfl, rfl⟩, fun b hb => ?_, q⟩
    obtain rfl : b = s1.heap.objs.size := by simpa using hb
    exact I1.fpOk (Nat.le_refl _) (I1.hok.fresh (Nat.le_refl _))
theorem k_pi_seq (K : PySem.W.Frag) {tg l : Expr} {tl : TE} (hl : PE X l tl) (hK : X.K = K := by rfl) : PI X tg l (iSeq K tl) := by subst hK; exact pi_seq hl
theorem w_iseq {K : PySem.W.Frag} {te : TE} {σ : L2.St} {H : Hp} {R : It → Hp → Prop} (q : te σ H fun x H1 => ∃ a, x = .ref a ∧ (((∃ xs, SqL K H1 a xs) ∧ R (Itl K a) H1) ∨ ((∃ xs, SqT K H1 a xs) ∧ R (Itt K a) H1))) : iSeq K te σ H R := q
/-- set(xs), a list or a tuple of pairs of ints -/
def rSetPA (K : PySem.W.Frag) (P : Program) (w : World) : List V → Hp → VK → Prop := fun vs H Q => ∃ (l : Addr) (xs : List V) (us : List (Int × Int)), vs = [V.ref l] ∧ (SqL K H l xs ∨ SqT K H l xs) ∧ DpAll K H xs (us.map dP) ∧ us.length < 64 ∧
  ∀ a L H2, H a = none → (∀ o, G o H H2) → H2 a = some (SetTO P w a L) → (∀ p ∈ L, SqT K H2 p.1 (p.2.map V.int)) → (∀ ns, ns ∈ L.map (·.2) ↔ ∃ u ∈ us, ns = [u.1, u.2]) → Q (.ref a) H2
theorem cr_setPA (hc : X.calm = true) (hu : X.A.units + 64 < cLine) : CallR X (.type "set") (rSetPA X.K X.prog X.w) := by
  intro pins s σ H vs us0 Q I r h
  obtain ⟨l, xs, us, rfl, hl, hd, hz, q⟩ := h
  rcases hl with hl | hl
  · exact cr_setPN hc hu pins s σ H _ us0 Q I r ⟨l, xs, us, rfl, hl, hd, hz, q⟩
  · obtain ⟨ks, rfl, h1, h2⟩ := ks_of hd
    have hz' : ks.length = us.length := by simpa using congrArg List.length h2
    rw [Vals.ref1 r]
    obtain ⟨its, rv, pl, _⟩ := I.tuple hl
    have hn : H s.heap.objs.size = none := I.hok.fresh (Nat.le_refl _)
    refine ga_set_of_tuple (P := X.prog) (w := X.w) ks (I.ok.hd hc) pl (by simpa using refs_of_vals rv) (fun p hp => I.isT (h1 p hp)) (by omega) (by omega) fun h' tk L es ep t R g k => ?_
    refine ⟨.ref s.heap.objs.size, upd H s.heap.objs.size (SetTO X.prog X.w s.heap.objs.size L), I.laid (t' := tk) k (Nat.le_refl _) (setTO_new R.t0), rfl, q _ L _ hn (fun _ => G.alloc hn) upd_same (fun p hp => sqT_t ((G.alloc (o := none) hn).tups) (h1 p (List.mem_of_mem_take (g.sub p hp)))) fun ns => ?_⟩
    have mem : ns ∈ ks.map (·.2) ↔ ∃ u ∈ us, ns = [u.1, u.2] := by
      rw [h2, List.mem_map]
      exact ⟨fun ⟨u, a, b⟩ => ⟨u, a, b.symm⟩, fun ⟨u, a, b⟩ => ⟨u, a, b.symm⟩⟩
    rw [← mem]
    constructor
    · intro h
      obtain ⟨p, hp, rfl⟩ := List.mem_map.mp h
      exact List.mem_map.mpr ⟨p, List.mem_of_mem_take (g.sub p hp), rfl⟩
    · intro h
      obtain ⟨p, hp, rfl⟩ := List.mem_map.mp h
      exact g.all p (by rw [List.take_length]; exact hp)
/-- t.index(z), t a tuple of ints -/
def rIndexTI (K : PySem.W.Frag) : V → List V → Hp → VK → Prop := fun x xs H Q => ∃ (p : Addr) (ns : List Int) (z : Int) (j : Nat), x = .ref p ∧ xs = [.int z] ∧ SqT K H p (ns.map V.int) ∧ ns[j]? = some z ∧ (∀ m, m < j → ns[m]? ≠ some z) ∧ Q (.int (j : Nat)) H
theorem mt_indexTI : MtR X "tuple.index" (rIndexTI X.K) := by
  intro pins s σ H x xs v us Q I rx rs h
  obtain ⟨p, ns, z, j, rfl, rfl, hq, hy, hno, q⟩ := h
  cases rx
  obtain ⟨u, rfl, t, rfl⟩ := vals1 rs
  obtain ⟨its, r, ⟨⟨cls, dd, dt, sl⟩, ho, hc, n, hd⟩, hz⟩ := I.tuple hq
  simp only at hc hd
  subst hc hd
  have hl : its.toArray.size = ns.length := by rw [List.size_toArray, ← r.length, List.length_map]
  have it : ∀ (m : Nat) (hm : m < its.toArray.size), ∃ y t', ns[m]? = some y ∧ its.toArray[m] = Value.int y t' := fun m hm => by
    have hm' : m < ns.length := by rw [← hl]; exact hm
    obtain ⟨w, hw, t', hw'⟩ := r.get (i := m) (x := .int ns[m]) (by simp [hm'])
    refine ⟨ns[m], t', List.getElem?_eq_getElem hm', ?_⟩
    have e := (List.getElem?_eq_some_iff.mp hw).2
    rw [← hw', ← e]
    simp
  have flat : (ns.map V.int).all flatV = true := by rw [List.all_map, List.all_eq_true]; exact fun _ _ => rfl
  have jl : j < its.toArray.size := by rw [hl]; exact (List.getElem?_eq_some_iff.mp hy).1
  refine call_meets PySem.F.slot_tuple_index ⟨_, ho, rfl⟩ PySem.F.entry_tuple_index (PySem.F.args_tuple_index_2 _ _) (TI.tuple_indexAt p its.toArray n dd sl (.int z t) (eqU (.int z)) j jl ?_ ?_)
    ⟨ho, fun w hw => mem_eqAt (x := .int z) ⟨t, rfl⟩ rfl r flat w (by simpa using hw), ⟨.int (j : Nat), H, I.tok _, ⟨_, rfl⟩, q⟩⟩
  · obtain ⟨y, t', h1, h2⟩ := it j jl
    rw [hy] at h1
    cases h1
    rw [h2]
    exact beq_self_eq_true z
  · intro m hm hmj
    obtain ⟨y, t', h1, h2⟩ := it m hm
    rw [h2]
    have ne : y ≠ z := fun e => hno m hmj (by rw [h1, e])
    exact beq_eq_false_iff_ne.mpr ne
theorem k_mt_indexTI (K : PySem.W.Frag) (hK : X.K = K := by rfl) : MtR X "tuple.index" (rIndexTI K) := by subst hK; exact mt_indexTI
/-- xs + ys, lists -/
def rCatLN : R2 := fun x y H Q => ∃ l b xs zs, x = .ref l ∧ y = .ref b ∧ H l = some (.lst xs) ∧ H b = some (.lst zs) ∧ xs.length + zs.length ≤ 100000 ∧ New H (.lst (xs ++ zs)) fun p H2 => Q (.ref p) H2
theorem op_catLN : OpR X (binaryOp .Add) rCatLN := OpR.weak op_cat fun x y H Q h => by
  obtain ⟨l, b, xs, zs, e1, e2, h1, h2, hz, q⟩ := h
  exact ⟨l, b, xs, zs, e1, e2, h1, h2, sz hz, fun p hp => q.go hp⟩
end
end GA
/-! ## GJ -/
namespace GA
open PySem PySem.Spec PyProof.Rows L2
/-! ### dict(pairs) whose keys are tuples -/
/-- one pair (key, value): where the pair's tuple stands, the key, where the key stands, the value -/
structure DPair where
  at_ : Addr
  key : List L2.Key
  kat : Addr
  val : V
def rDictPT : List V → Hp → VK → Prop := fun xs H Q => ∃ (a : Addr) (L : List DPair), xs = [.ref a] ∧ H a = some (.lst (L.map fun q => V.ref q.at_)) ∧ (∀ q ∈ L, H q.at_ = some (.tup [.ref q.kat, q.val]) ∧ H q.kat = some (.tup (q.key.map kV))) ∧ (L.map fun q => q.key).Nodup ∧ New H (.dT (L.map fun q => (q.key, q.val))) fun p H2 => Q (.ref p) H2
section
variable {X : Cx}
theorem pairs_told {pins : List (Addr × Obj)} {σ : L2.St} {H : Hp} {s : Shared} (I : Inv X pins σ H s) : ∀ (L : List DPair), (∀ q ∈ L, H q.at_ = some (.tup [.ref q.kat, q.val]) ∧ H q.kat = some (.tup (q.key.map kV))) →
    ∃ prs : List (List L2.Key × Addr × Value), Paired (fun (q : DPair) (p : List L2.Key × Addr × Value) => p.1 = q.key ∧ p.2.1 = q.kat ∧ RelV q.val p.2.2 ∧ s.heap.IsTuple q.at_ #[.ref q.kat, p.2.2]) L prs
  | [], _ => ⟨[], .nil⟩
  | q :: L, h => by
    obtain ⟨prs, r⟩ := pairs_told I L fun q' hq => h q' (List.mem_cons_of_mem _ hq)
    obtain ⟨h1, _⟩ := h q List.mem_cons_self
    obtain ⟨_, its, rv, pl⟩ := I.hok q.at_ _ h1
    cases rv with
    | cons r1 r2 =>
      cases r2 with
      | cons r2 r3 =>
        cases r3
        cases r1
        exact ⟨(q.key, q.kat, _) :: prs, .cons ⟨rfl, rfl, r2, pl⟩ r⟩
theorem paired_len {α β : Type} {F : α → β → Prop} : ∀ {l : List α} {m : List β}, Paired F l m → l.length = m.length
  | _, _, .nil => rfl
  | _, _, .cons _ t => by rw [List.length_cons, List.length_cons, paired_len t]
theorem paired_at {α β : Type} {F : α → β → Prop} : ∀ {l : List α} {m : List β} {i : Nat} {y : β}, Paired F l m → m[i]? = some y → ∃ x, l[i]? = some x ∧ F x y
  | _, _, _, _, .nil, e => by simp at e
  | _, _, 0, _, .cons h _, e => by simp at e; subst e; exact ⟨_, rfl, h⟩
  | _, _, i + 1, y, .cons _ t, e => by
    obtain ⟨x, h1, h2⟩ := paired_at (i := i) (y := y) t (by simpa using e)
    exact ⟨x, by simpa using h1, h2⟩
theorem paired_keys {s : Shared} {L : List DPair} {prs : List (List L2.Key × Addr × Value)} (r : Paired (fun (q : DPair) (p : List L2.Key × Addr × Value) => p.1 = q.key ∧ p.2.1 = q.kat ∧ RelV q.val p.2.2 ∧ s.heap.IsTuple q.at_ #[.ref q.kat, p.2.2]) L prs) : prs.map (·.1) = L.map fun q => q.key := by
  induction r with
  | nil => rfl
  | cons h _ ih => rw [List.map_cons, List.map_cons, ih, h.1]
theorem paired_kt {s : Shared} {H : Hp} {L : List DPair} {prs : List (List L2.Key × Addr × Value)} (r : Paired (fun (q : DPair) (p : List L2.Key × Addr × Value) => p.1 = q.key ∧ p.2.1 = q.kat ∧ RelV q.val p.2.2 ∧ s.heap.IsTuple q.at_ #[.ref q.kat, p.2.2]) L prs)
    (h : ∀ q ∈ L, H q.kat = some (.tup (q.key.map kV))) : KT H (L.map fun q => (q.key, q.val)) prs := by
  induction r with
  | nil => exact .nil
  | @cons q p L prs e _ ih =>
    refine .cons ⟨e.1.symm, ?_, e.2.2.1⟩ (ih fun q' hq => h q' (List.mem_cons_of_mem _ hq))
    rw [e.2.1]
    exact h q List.mem_cons_self
theorem call_dictPT (hc : X.calm = true) (hu : X.A.units + 64 < cLine) : CallR X (.type "dict") rDictPT := by
  intro pins s σ H xs us Q I r h
  obtain ⟨a, L, rfl, ha, hL, nd, q⟩ := h
  obtain ⟨u, rfl, rx⟩ := vals1 r
  cases rx
  obtain ⟨hz, its, n, rv, ea⟩ := I.hok a _ ha
  have eits : its = L.map fun q => Value.ref q.at_ := by
    have e : (L.map fun q => V.ref q.at_) = (L.map fun q => q.at_).map V.ref := by rw [List.map_map]; rfl
    rw [e] at rv
    have := L2.refs_at rv
    rw [this, List.map_map]; rfl
  obtain ⟨prs, pr⟩ := pairs_told I L hL
  have len := paired_len pr
  have keys := paired_keys pr
  have P := PairArg.list (prog := X.prog) (w := X.w) a its.toArray (fun j => (L[j]?.map fun q => q.at_).getD 0) (prs.map fun p => (Value.ref p.2.1, p.2.2))
  have Lsz : L.length ≤ sizeLine := by
    rw [List.length_map] at hz
    exact hz
  have key_in : ∀ p ∈ prs, ∃ q ∈ L, p.1 = q.key ∧ p.2.1 = q.kat := fun p hp => by
    obtain ⟨i, hi⟩ := List.getElem?_of_mem hp
    obtain ⟨q, hq, e⟩ := paired_at pr hi
    exact ⟨q, List.mem_of_getElem? hq, e.1, e.2.1⟩
  have newA : H s.heap.objs.size = none := I.hok.fresh (Nat.le_refl _)
  refine call_dict_pairsH (knd := tupleKind (mixKind X.prog X.w)) (ps := prs) P (I.ok.hd hc) (by show _ < cLine; simp; omega) ⟨⟨_, n, ea, rfl, rfl, rfl⟩, ?_, fun j k v e => ?_⟩ ⟨by rw [List.length_map], fun i key v e => ?_⟩ (fun h' keep p hp => ?_) (by rw [List.length_map]; omega) fun h' tk D keep => ?_
  · rw [List.size_toArray, eits, List.length_map, List.length_map, len]
  · rw [List.getElem?_map] at e
    obtain ⟨p, hp, e⟩ := Option.map_eq_some_iff.mp e
    cases e
    obtain ⟨q, hq, e1, e2, e3, e4⟩ := paired_at pr hp
    have eq1 : (L[j]?.map fun q => q.at_).getD 0 = q.at_ := by rw [hq]; rfl
    refine ⟨?_, .inl ?_⟩
    · show its.toArray[j]? = some (.ref ((L[j]?.map fun q => q.at_).getD 0))
      rw [eq1, eits]
      simp [hq]
    · show s.heap.IsTuple ((L[j]?.map fun q => q.at_).getD 0) _
      rw [eq1]
      show s.heap.IsTuple q.at_ #[.ref p.2.1, p.2.2]
      rw [e2]
      exact e4
  · have e : (prs.map fun p => (Value.ref p.2.1, p.2.2))[i]? = some (key, v) := e
    rw [List.getElem?_map] at e
    obtain ⟨p, hp, e⟩ := Option.map_eq_some_iff.mp e
    cases e
    exact ⟨p.1, p.2.1, hp, rfl⟩
  · obtain ⟨q, hq, e1, e2⟩ := key_in p hp
    have k0 := key_of I.hok (hL q hq).2
    rw [e1, e2]
    obtain ⟨o, items, m, ho, rest⟩ := k0
    exact ⟨o, items, m, keep _ _ (Nat.ne_of_lt (Heap.lt_size ho)) (by simp) ho, rest⟩
  · have e0 : storedAllH [] prs = prs := storedAllH_nil_of_nodup prs (by rw [keys]; exact nd)
    rw [e0] at D
    obtain ⟨o, es, ep, d1, d2, d3, d4, _, d6⟩ := D
    have hm : (s.heap.objs.size == sysModules) = false := beq_eq_false_iff_ne.mpr (Nat.ne_of_gt I.big)
    have kt : KT (upd H s.heap.objs.size (.dT (L.map fun q => (q.key, q.val)))) (L.map fun q => (q.key, q.val)) prs := paired_kt pr fun q hq => by
      rw [upd_ne (ne_of_none (hL q hq).2 newA)]
      exact (hL q hq).2
    exact ⟨.ref s.heap.objs.size, _, I.laid (o := .dT (L.map fun q => (q.key, q.val))) (t' := tk) (fun b o e => keep b o (by simp) e) (Nat.le_refl _) ⟨by rw [List.length_map]; exact Lsz, hm, prs, kt, o, es, ep, d1, d2, d3, d4, d6⟩, rfl, q.go newA⟩
end
end GA
/-! ## GK -/
namespace GA
open PySem PySem.Spec PyProof.Rows L2
section
variable {X : Cx}
/-- len(set(t)), t a tuple of unlike ints -/
def tLenSetTI (K : PySem.W.Frag) (ta : TE) : TE := fun σ H Q => ta σ H fun x H1 => ∃ (l : Addr) (ns : List Int), x = V.ref l ∧ SqT K H1 l (ns.map V.int) ∧ ns.length ≤ 1000 ∧ ns.Nodup ∧ Q (.int ns.length) H1
theorem pe_lenSetTI {a : Expr} {ta : TE} {p p2 q pos : Pos} (hc : X.calm = true) (hg : Gl X "len") (hm : X.mg "len" = none) (hg2 : Gl X "set") (hm2 : X.mg "set" = none) (ha : PE X a ta)
    (na : starEach [a] X.env = (false, eval a X.env) :: starEach [] X.env := by rfl) : PE X (.Call (.Name "len" p) [.Call (.Name "set" p2) [a] [] q] [] pos) (tLenSetTI X.K ta) := by
  refine ⟨fun pins s σ H Q I h => Call_ (ld_blt I hg hm PySem.boot_len (PyProof.Rows.callWith_builtin1 (PyProof.Rows.args_cons ?_ rfl) rfl rfl))⟩
  refine Call_ (ld_blt I hg2 hm2 PyProof.Rows.boot_set (PyProof.Rows.callWith_type1 (PyProof.Rows.args_cons (thn (ha.run pins s σ H _ I h) fun v s1 ⟨x, H1, I1, r1, l, ns, ex, hq, h1, hnd, q1⟩ => PyProof.Rows.args_nil ?_) na) na rfl))
  subst ex
  cases r1
  obtain ⟨its, r, pt, _⟩ := I1.tuple hq
  refine call_set_tupI ns (I1.ok.hd hc) pt (ints_of_vals r) (by unfold scanBound; omega) fun h' tk c R _ keep => PyProof.Rows.args_nil ?_
  obtain ⟨o, es, ep, t, ho, hex, hd, _, nd, mem, hsz, hf, _⟩ := R
  have e : es.size = ns.length := by
    have pm : (es.toList.map keyOf).Perm ns := (List.perm_ext_iff_of_nodup nd hnd).mpr fun k => by rw [← mem]; simp
    have := pm.length_eq
    simpa using this
  have I2 : Inv X pins σ H1 { s1 with heap := h', toks := tk } := I1.kept keep
  exact call_len_set ho hex hd hf (by rw [e]; omega) ⟨.int ns.length, H1, I2.tok _, ⟨_, by rw [e]⟩, q1⟩
end
end GA
/-! ## GL -/
namespace GA
open PySem L2
/-! ### methods of tuples; tuples whose object is known -/
section
variable {X : Cx} {T : String} {name : Str} {id : String} {r : V → List V → Hp → VK → Prop} {o e : Expr} {es : List Expr} {apos cpos : Pos} {to : TE} {t : TA}
theorem k_bm (K : PySem.W.Frag) (pa : PlainAttrs T) (slot : Slot T name id) (hty : typeOf (.builtin id) = pure (.type "method_descriptor")) (hm : MtR X id r) (ho : PE X o to) (ha : PA X (e :: es) t) (hK : X.K = K := by rfl)
    (h1 : attributeBase o name X.env (eval o X.env) = eval o X.env := by rfl)
    (h2 : ((backTo cpos (starEach (e :: es) X.env)).all (fun x => !x.1) && (backToKw cpos (keywordEach [] X.env)).all (fun x => x.1.isSome) && decide ((e :: es).length + ([] : List Keyword).length + (if ([] : List Keyword).isEmpty then 0 else 1) < 30)) = true := by rfl)
    (h3 : (apos.endLine == cpos.line) = true := by rfl) (h4 : starEach (e :: es) X.env = (false, eval e X.env) :: starEach es X.env := by rfl) (h5 : (backTo cpos (starEach es X.env)).any (·.1) = false := by rfl) :
    PE X (.Call (.Attribute o name apos) (e :: es) [] cpos) (tBM K T r to t) := by
  subst hK
  exact pe_bm pa slot hty hm ho ha h1 h2 h3 h4 h5
/-- a tuple whose object is known: it has no names of its own -/
def FrzT (H : Hp) (p : Addr) (xs : List V) : Prop := ∃ ob : Obj, H p = some (.frz ob (.tup xs)) ∧ ob.dict = none
theorem FrzT.sq {K : PySem.W.Frag} {H : Hp} {p : Addr} {xs : List V} (h : FrzT H p xs) : SqT K H p xs := by
  obtain ⟨ob, h, _⟩ := h
  exact .inl (.inr ⟨ob, h⟩)
theorem FrzT.n {H H' : Hp} {p : Addr} {xs : List V} (h : FrzT H p xs) (g : G none H H') : FrzT H' p xs := by
  obtain ⟨ob, h, d⟩ := h
  exact ⟨ob, g.all _ _ h, d⟩
def tBMT (r : V → List V → Hp → VK → Prop) (to : TE) (t : TA) : TE := fun σ H Q => to σ H fun x H1 => (∃ p xs, x = .ref p ∧ FrzT H1 p xs) ∧ t σ H1 fun vs H2 => r x vs H2 Q
theorem w_bmt {r : V → List V → Hp → VK → Prop} {σ : L2.St} {H : Hp} {Q : VK} (q : to σ H fun x H1 => (∃ p xs, x = .ref p ∧ FrzT H1 p xs) ∧ t σ H1 fun vs H2 => r x vs H2 Q) : tBMT r to t σ H Q := q
theorem pe_bmT (pa : PlainAttrs "tuple") (slot : Slot "tuple" name id) (hty : typeOf (.builtin id) = pure (.type "method_descriptor")) (hm : MtR X id r) (ho : PE X o to) (ha : PA X (e :: es) t)
    (h1 : attributeBase o name X.env (eval o X.env) = eval o X.env := by rfl)
    (h2 : ((backTo cpos (starEach (e :: es) X.env)).all (fun x => !x.1) && (backToKw cpos (keywordEach [] X.env)).all (fun x => x.1.isSome) && decide ((e :: es).length + ([] : List Keyword).length + (if ([] : List Keyword).isEmpty then 0 else 1) < 30)) = true := by rfl)
    (h3 : (apos.endLine == cpos.line) = true := by rfl) (h4 : starEach (e :: es) X.env = (false, eval e X.env) :: starEach es X.env := by rfl) (h5 : (backTo cpos (starEach es X.env)).any (·.1) = false := by rfl) :
    PE X (.Call (.Attribute o name apos) (e :: es) [] cpos) (tBMT r to t) := by
  refine ⟨fun pins s σ H Q I h => ?_⟩
  refine wpAny_Call_method_late h1 h2 h3 rfl (thn (ho.run pins s σ H _ I h) fun v s1 ⟨x, H1, I1, r1, ⟨p, xs, ex, ob, hp, dn⟩, q1⟩ => ?_)
  subst ex
  cases r1
  obtain ⟨a1, _, its, _, o', a2, a3, _⟩ := I1.hok p _ hp
  obtain rfl : o' = ob := by
    rw [a1] at a2
    exact (Option.some.inj a2).symm
  refine ⟨"tuple", id, pa, slot, hty, ⟨o', a1, a3⟩, fun a e => by cases e; exact ⟨o', a1, dn⟩, ?_⟩
  have hA := ha.run cpos pins s1 σ H1 _ I1 q1
  rw [h4] at hA ⊢
  refine Calls.callWith_builtin (by show (false || (backTo cpos (starEach es X.env)).any (·.1)) = false; rw [h5] <;> rfl) (Calls.evalArgs_plain ?_)
  exact thn hA fun us s2 ⟨vs, H2, I2, r2, q2⟩ => hm pins s2 σ H2 (.ref p) vs (.ref p) us Q I2 rfl r2 q2
/-- tuple(a list): the new tuple's object is told -/
def rTupleF (K : PySem.W.Frag) : List V → Hp → VK → Prop := fun xs H Q => ∃ p ys, xs = [.ref p] ∧ SqL K H p ys ∧ ∀ l H2, H l = none → (∀ o, G o H H2) → FrzT H2 l ys → Q (.ref l) H2
theorem call_tupleF : CallR X (.type "tuple") (rTupleF X.K) := by
  intro pins s σ H xs us Q I r h
  obtain ⟨p, ys, rfl, hq, q⟩ := h
  obtain ⟨u, rfl, rx⟩ := vals1 r
  cases rx
  obtain ⟨its, r', pl, hz⟩ := I.list hq
  have hlen := r'.length
  refine call_tuple_list pl.isList (fun h' kp => ?_) (by simp only [List.size_toArray] <;> omega)
  have I1 : Inv X pins σ H { s with heap := h' } := I.kept (t' := s.toks) kp
  have new : H h'.objs.size = none := I1.hok.fresh (Nat.le_refl _)
  refine ⟨.ref h'.objs.size, _, I1.laid (o := .frz { cls := .type "tuple", data := .seq its.toArray } (.tup ys)) (t' := s.toks) (fun b o e => Heap.get?_push_of_some _ e) (Nat.le_refl _) ⟨Heap.get?_push_size _ rfl, hz, its, r', PyProof.Rows.IsTup.new _ _⟩, rfl, q _ _ new (fun _ => G.alloc new) ⟨_, upd_same, rfl⟩⟩
end
end GA
/-! ## GU -/
namespace GA
open PySem PySem.Spec PyProof.Rows L2
/-! ### a dict by a comprehension, its keys tuples -/
section
variable {X : Cx}
/-- a pair is stored in a dict with tuple keys, from within a comprehension -/
theorem dset_T {pins : List (Addr × Obj)} {σ : L2.St} {H : Hp} {s : Shared} {E : Value → Shared → Prop} {D b : Addr} {kvs : List (List L2.Key × V)} {k : List L2.Key} {v : V} {u r : Value} {Q : Unit → Shared → Prop} (hu : X.A.units + 1 < cLine) (I : Inv X pins σ H s)
    (hD : H D = some (.dT kvs)) (hb : H b = some (.tup (k.map kV))) (hz : kvs.length < sizeLine) (ru : RelV (.ref b) u) (rv : RelV v r) (go : ∀ s', Inv X pins σ (upd H D (.dT (putK kvs k v))) s' → Q () s') :
    wpAny (model X.prog X.w) X.A (dictSet D u r) Q E s := by
  cases ru
  obtain ⟨z, nm, xs, kt, at_⟩ := dt_of I.hok hD
  have lx : xs.length ≤ sizeLine := Paired.length kt ▸ z
  have lp : (putK kvs k v).length ≤ sizeLine := Nat.le_trans (length_putK kvs k v) hz
  refine wpAny_dictSet_heap (hsz := lx) (show X.A.units < cLine by omega) (key_of I.hok hb) at_ ?_
  rintro h' ⟨ob, es, ep, q1, q2, q3, q4, _, q6⟩ same
  apply go
  have keeps : ∀ (c : Addr) ys, H c = some (.tup ys) → upd H D (.dT (putK kvs k v)) c = some (.tup ys) := fun c ys ec => (upd_ne (ne_of ec hD (by intro e; cases e))).trans ec
  exact d_write I (hD.symm ▸ True.intro) same ⟨ob, q1⟩ ⟨lp, nm, _, (KT.put kt k hb rv).keeps keeps, ob, es, ep, q1, q2, q3, q4, q6⟩
/-- {k: v for target in iter if ..}, the keys tuples of ints or texts: D the new dict -/
def tDcT (wi : TI) (g : TG) (tt : TT) (tk tv : TE) (vs : List Nat) : TE := fun σ H Q => wi σ H fun J H1 => ∀ D, H1 D = none → ∃ W : Nat → Nat → Hp → Prop, (∃ m, W 0 m (upd H1 D (.dT []))) ∧ ∀ i m H, W i m H →
  (J.stop i H ∧ Q (.ref D) H) ∨ (J.go i H ∧ ∃ Nx : Hp → Prop, (∀ H', Nx H' → ∃ m', m' < m ∧ W (i + 1) m' H') ∧ ∀ x H', J.yld i H x H' → g x (wipe σ vs) H' fun σ2 H2 => wipe σ2 vs = wipe σ vs ∧ tt σ2 H2 fun b H3 =>
    if b = true then tk σ2 H3 fun y H4 => tv σ2 H4 fun z H5 => ∃ kvs k b, y = .ref b ∧ H5 b = some (.tup (k.map kV)) ∧ H5 D = some (.dT kvs) ∧ kvs.length < sizeLine ∧ Nx (upd H5 D (.dT (putK kvs k z))) else Nx H3)
theorem pe_dcT {kx vx tg iter : Expr} {ifs : List Expr} {scope : Scope} {own : List (Str × Nat)} {pos : Pos} {wi : TI} {g : TG} {tt : TT} {tk tv : TE} (hu : X.A.units + 1 < cLine) (calm : X.calm = true) (nd : X.N.Nodup) (src : PI X tg iter wi) (blk : BlkOk X.N X.env.scope scope own)
    (pg : ∀ (s : Shared) (H : Hp) (C : Addr) (cl : List (Str × Addr)) (fp : List Addr), PG (X.blk s H scope (compEnvC scope cl C X.env) fp) tg g)
    (pt : ∀ (s : Shared) (H : Hp) (C : Addr) (cl : List (Str × Addr)) (fp : List Addr), PTs (X.blk s H scope (compEnvC scope cl C X.env) fp) ifs tt)
    (pk : ∀ (s : Shared) (H : Hp) (C : Addr) (cl : List (Str × Addr)) (fp : List Addr), PE (X.blk s H scope (compEnvC scope cl C X.env) fp) kx tk)
    (pv' : ∀ (s : Shared) (H : Hp) (C : Addr) (cl : List (Str × Addr)) (fp : List Addr), PE (X.blk s H scope (compEnvC scope cl C X.env) fp) vx tv) (fold : ∀ x, foldedSetIterable iter X.env x = pure x := by intro _; rfl) :
    PE X (.DictComp kx vx [⟨tg, iter, ifs, 0⟩] scope pos) (tDcT wi g tt tk tv (own.map (·.2))) := by
  constructor
  intro pins s σ H Q I want
  rw [arm_eval_DictComp]
  have cells : ∀ nm ∈ scope.names, nm.2 = .free → ∃ c, X.env.cells.lookup nm.1 = some c := fun nm hnm e => (blk.free nm hnm e).elim (fun a => I.ok.has _ (.inl a)) fun a => I.ok.has _ (.inr a)
  apply wpAny_comprehension_free (use := none) rfl fold (closure_ok cells) blk.kind (fun nm hnm e => by rw [blk.uniq nm hnm, e])
  refine thn (src.run pins s σ H _ I want) fun _ sa step1 => thn step1 fun _ sb step2 => ?_
  obtain ⟨it, fp, told, J, Hb, rfl, Ib, Tn, stb, fb, rest⟩ := step2
  refine wpAny_newObj_type (newEnv_comp ?_)
  -- the dict's own place
  obtain ⟨D, eD⟩ : ∃ D, sb.heap.objs.size = D := ⟨_, rfl⟩
  have freeD : Hb D = none := Ib.hok.fresh (eD ▸ Nat.le_refl _)
  obtain ⟨W, ⟨m0, start⟩, turn⟩ := rest D freeD
  obtain ⟨sc, eSc⟩ : ∃ sc : Shared, { sb with heap := sb.heap.push { cls := .type "dict", data := .dict #[] } } = sc := ⟨_, rfl⟩
  have hc : sc.heap = sb.heap.push { cls := .type "dict", data := .dict #[] } := eSc ▸ rfl
  have Ic : Inv X pins σ (upd Hb D (.dT [])) sc := by
    subst eSc eD
    exact Ib.laid (t' := sb.toks) (fun _ _ e => Heap.get?_push_of_some _ e) (Nat.le_refl _) (dt_empty sb.heap Ib.big)
  have low : ∀ b ∈ fp, b < sb.heap.objs.size := fun b hb => let ⟨_, e, _⟩ := Tn.obj _ _ stb b hb; Heap.lt_size e
  have fc : ∀ b ∈ fp, FpOk X pins (upd Hb D (.dT [])) b ∧ b < sc.heap.objs.size := by
    intro b hb
    have lt := low b hb
    have ne : b ≠ D := eD ▸ Nat.ne_of_lt lt
    exact ⟨⟨(upd_ne ne).trans (fb b hb).1, (fb b hb).2⟩, by rw [hc, Heap.size_push]; exact Nat.lt_succ_of_lt lt⟩
  have stc : told 0 sc.heap := Tn.keep _ _ _ stb fun b _ o e => hc ▸ Heap.get?_push_of_some _ e
  have Id := block_start Ic blk nd fc
  have rg := pg sc (upd Hb D (.dT [])) sc.heap.objs.size (cellsFrom (sc.heap.objs.size + 1) scope.names (cloFrom X.env.cells scope.names [])) fp
  have rt := pt sc (upd Hb D (.dT [])) sc.heap.objs.size (cellsFrom (sc.heap.objs.size + 1) scope.names (cloFrom X.env.cells scope.names [])) fp
  have rk := pk sc (upd Hb D (.dT [])) sc.heap.objs.size (cellsFrom (sc.heap.objs.size + 1) scope.names (cloFrom X.env.cells scope.names [])) fp
  have rv := pv' sc (upd Hb D (.dT [])) sc.heap.objs.size (cellsFrom (sc.heap.objs.size + 1) scope.names (cloFrom X.env.cells scope.names [])) fp
  have bare : ∀ b ∈ fp, upd Hb D (.dT []) b = none := fun b hb => (fc b hb).1.1
  show codeAny _ _ (.compStart (.DictComp kx vx [⟨tg, iter, ifs, 0⟩] scope pos) 0 (.ref it) (.ref sb.heap.objs.size) (compEnvC scope (cellsFrom (({ sb with heap := sb.heap.push { cls := .type "dict", data := .dict #[] } } : Shared).heap.objs.size + 1) scope.names (cloFrom X.env.cells scope.names [])) ({ sb with heap := sb.heap.push { cls := .type "dict", data := .dict #[] } } : Shared).heap.objs.size X.env)) (compPost (model X.prog X.w) X.A X.xe none _ (.ref sb.heap.objs.size) ({ sb with heap := sb.heap.push { cls := .type "dict", data := .dict #[] } } : Shared).heap.objs.size) { ({ sb with heap := sb.heap.push { cls := .type "dict", data := .dict #[] } } : Shared) with heap := pushCells (({ sb with heap := sb.heap.push { cls := .type "dict", data := .dict #[] } } : Shared).heap.push { cls := .type "dict", data := .dict #[] }) scope.names }
  rw [eSc, eD]
  obtain ⟨ce, eCe⟩ : ∃ ce, compEnvC scope (cellsFrom (sc.heap.objs.size + 1) scope.names (cloFrom X.env.cells scope.names [])) sc.heap.objs.size X.env = ce := ⟨_, rfl⟩
  have at_ce : ce.locals = sc.heap.objs.size := eCe ▸ rfl
  rw [eCe] at Id rg rt rk rv ⊢
  obtain ⟨Hc, eHc⟩ : ∃ Hc, upd Hb D (.dT []) = Hc := ⟨_, rfl⟩
  rw [eHc] at Ic Id rg rt rk rv start bare fc
  obtain ⟨sd, eSd⟩ : ∃ sd : Shared, { sc with heap := pushCells (sc.heap.push { cls := .type "dict", data := .dict #[] }) scope.names } = sd := ⟨_, rfl⟩
  rw [eSd] at Id ⊢
  have std : told 0 sd.heap := Tn.keep _ _ _ stc fun b _ o e => eSd ▸ pushCells_keeps _ _ _ _ (Heap.get?_push_of_some _ e)
  have pins_ : ∀ {τ : L2.St} {H' : Hp} {s' : Shared}, Inv (X.blk sc Hc scope ce fp) [] τ H' s' → (∀ b ∈ fp, H' b = none) → ∀ b ∈ fp, FpOk (X.blk sc Hc scope ce fp) [] H' b := fun I' no b hb =>
    ⟨no b hb, (I'.ok.exf b hb).1, I'.ok.exfs b hb, .inl hb, fun x c e => (I'.ok.exf b hb).2 x c e, fun p hp => nomatch (show p ∈ ([] : List (Addr × Obj)) from hp)⟩
  have loop : codeAny (model X.prog X.w) X.A (.compLoop (.DictComp kx vx [⟨tg, iter, ifs, 0⟩] scope pos) 0 (.ref it) (.ref D) ce) (compPost (model X.prog X.w) X.A X.xe none (fun v s' => ∃ x H', Inv X pins σ H' s' ∧ RelV x v ∧ Q x H') (.ref D) sc.heap.objs.size) sd := by
    refine compLoop_anyD (fun n s' => ∃ i H', Inv (X.blk sc Hc scope ce fp) [] (wipe σ (own.map (·.2))) H' s' ∧ told i s'.heap ∧ (∀ b ∈ fp, H' b = none) ∧ W i n H') ?_ m0 ⟨0, Hc, Id, std, bare, start⟩
    rintro n s1 ⟨i, H1, I1, st1, no1, w1⟩
    rcases turn i n H1 w1 with ⟨halt, ends⟩ | ⟨goes, Nx, next, step⟩
    · refine thnF (Tn.done (X.blk sc Hc scope ce fp) rfl rfl rfl calm i [] s1 _ H1 (fun _ _ => False) I1 (pins_ I1 no1) st1 halt) fun r s2 out => ?_
      obtain ⟨rfl, I2⟩ := out
      have I3 : Inv X pins σ H1 s2 := Ic.call' (ch := fp) I2.os I2.base I2.hok I2.bare fun b hb =>
        let q := (fc b hb).1.2
        ⟨q.2.2.1, q.1, q.2.2.2.1, q.2.2.2.2⟩
      have free1 : H1 sc.heap.objs.size = none := at_ce ▸ I2.free
      obtain ⟨ns, hns, _⟩ := I2.loc
      have hns : s2.heap.Ns sc.heap.objs.size ns := at_ce ▸ (show s2.heap.Ns ce.locals ns from hns)
      obtain ⟨q0, q1, q2, q3, q4, q5⟩ := Ic.fpOk (Nat.le_refl _) free1
      exact ⟨ns, hns, fun h2 same => ⟨.ref D, H1, I3.turned (t' := s2.toks) (fun b o hb e => (same.2 b hb).trans e) q0 q1 q3 q4 q5, rfl, ends⟩⟩
    · refine thnF (Tn.item (X.blk sc Hc scope ce fp) rfl rfl rfl calm i [] s1 _ H1 (fun _ _ => False) I1 (pins_ I1 no1) st1 goes) fun r s2 out => ?_
      obtain ⟨u, rfl, out⟩ := out
      refine thnF out fun _ s3 ⟨x, H3, I3, r3, y3, st3, no3⟩ => ?_
      have J3 := I3.pinned (pins_ I3 no3) (Tn.obj _ _ st3)
      refine thnF (rg.run _ s3 _ H3 x u _ J3 r3 (step x H3 y3)) fun _ s4 ⟨σ4, H4, I4, w4, q4⟩ => ?_
      refine thnF (rt.run _ s4 σ4 H4 _ I4 q4) fun ok s5 ⟨H5, I5, q5⟩ => ?_
      have back : ∀ {s' : Shared} {H' : Hp}, Inv (X.blk sc Hc scope ce fp) ([] ++ pinsAt fp s3.heap) σ4 H' s' → Nx H' → ∃ m, m < n ∧ ∃ i H', Inv (X.blk sc Hc scope ce fp) [] (wipe σ (own.map (·.2))) H' s' ∧ told i s'.heap ∧ (∀ b ∈ fp, H' b = none) ∧ W i m H' := by
        intro s' H' I' nx
        obtain ⟨m', less, w'⟩ := next H' nx
        have stays : ∀ b ∈ fp, ∀ o, s3.heap.get? b = some o → s'.heap.get? b = some o ∧ H' b = none := fun b hb o e =>
          have z := I'.pin (b, o) (List.mem_append_right _ (List.mem_append_right _ (mem_pinsAt hb e)))
          ⟨z.1, z.2.1⟩
        refine ⟨m', less, i + 1, H', I'.unpinned (pins := []) |>.weak (by rw [← w4, wipe_length]) (fun j v e => (wipe_some (w4.symm ▸ e)).1), Tn.keep _ _ _ st3 fun b hb o e => (stays b hb o e).1, fun b hb => ?_, w'⟩
        obtain ⟨o, e, _⟩ := Tn.obj _ _ st3 b hb
        exact (stays b hb o e).2
      cases ok with
      | false => exact back I5 (by simpa using q5)
      | true =>
        refine thnF (rk.run _ s5 σ4 H5 _ I5 (show tk σ4 H5 _ from q5)) fun _ s6 ⟨y6, H6, I6, r6, q6⟩ => ?_
        refine thnF (rv.run _ s6 σ4 H6 _ I6 q6) fun _ s7 ⟨y7, H7, I7, r7, kvs, key, b, e7, hb7, hD7, hz7, nx⟩ => ?_
        exact dset_T (X := X.blk sc Hc scope ce fp) hu I7 hD7 hb7 hz7 (e7 ▸ r6) r7 fun s8 I8 => back I8 nx
  exact codeAny_compStart_dict loop (Tn.self X.A 0 _ _ _ std loop)
end
section
variable {J : It} {n : Nat} {Gd : Hp → Prop} {Y : Nat → Hp → V → Hp → Prop} {g : TG} {tt : TT} {tk tv : TE} {wi : TI} {vs : List Nat} {σ : L2.St} {H1 : Hp} {D : Addr} {Qd : Hp → Prop}
theorem dcT_it (w : Walk J n Gd Y) (Pv : Nat → Hp → Prop) (h0 : Pv 0 (upd H1 D (.dT []))) (hG : ∀ i H, i ≤ n → Pv i H → Gd H)
    (hs : ∀ i x H H', i < n → Pv i H → Y i H x H' → g x (wipe σ vs) H' fun σ2 H2 => wipe σ2 vs = wipe σ vs ∧ tt σ2 H2 fun b H3 =>
      if b = true then tk σ2 H3 fun y H4 => tv σ2 H4 fun z H5 => ∃ kvs k b, y = .ref b ∧ H5 b = some (.tup (k.map kV)) ∧ H5 D = some (.dT kvs) ∧ kvs.length < sizeLine ∧ Pv (i + 1) (upd H5 D (.dT (putK kvs k z))) else Pv (i + 1) H3) (hd : ∀ H, Pv n H → Qd H) :
    ∃ W : Nat → Nat → Hp → Prop, (∃ m, W 0 m (upd H1 D (.dT []))) ∧ ∀ i m H, W i m H →
      (J.stop i H ∧ Qd H) ∨ (J.go i H ∧ ∃ Nx : Hp → Prop, (∀ H', Nx H' → ∃ m', m' < m ∧ W (i + 1) m' H') ∧ ∀ x H', J.yld i H x H' → g x (wipe σ vs) H' fun σ2 H2 => wipe σ2 vs = wipe σ vs ∧ tt σ2 H2 fun b H3 =>
        if b = true then tk σ2 H3 fun y H4 => tv σ2 H4 fun z H5 => ∃ kvs k b, y = .ref b ∧ H5 b = some (.tup (k.map kV)) ∧ H5 D = some (.dT kvs) ∧ kvs.length < sizeLine ∧ Nx (upd H5 D (.dT (putK kvs k z))) else Nx H3) := by
  refine ⟨fun i m H => m = n - i ∧ i ≤ n ∧ Pv i H, ⟨n, by simp, Nat.zero_le _, h0⟩, ?_⟩
  rintro i m H ⟨rfl, hi, p⟩
  have q := hG i H hi p
  by_cases c : i < n
  · exact .inr ⟨w.goes i H c q, Pv (i + 1), fun H' p' => ⟨n - (i + 1), by omega, rfl, c, p'⟩, fun x H' y => hs i x H H' c p (w.yields i H x H' c q y)⟩
  · obtain rfl : i = n := by omega
    exact .inl ⟨w.stops H q, hd H p⟩
theorem w_dcT {Q : VK} (q : wi σ H1 fun J H1 => ∀ D, H1 D = none → ∃ W : Nat → Nat → Hp → Prop, (∃ m, W 0 m (upd H1 D (.dT []))) ∧ ∀ i m H, W i m H →
  (J.stop i H ∧ Q (.ref D) H) ∨ (J.go i H ∧ ∃ Nx : Hp → Prop, (∀ H', Nx H' → ∃ m', m' < m ∧ W (i + 1) m' H') ∧ ∀ x H', J.yld i H x H' → g x (wipe σ vs) H' fun σ2 H2 => wipe σ2 vs = wipe σ vs ∧ tt σ2 H2 fun b H3 =>
    if b = true then tk σ2 H3 fun y H4 => tv σ2 H4 fun z H5 => ∃ kvs k b, y = .ref b ∧ H5 b = some (.tup (k.map kV)) ∧ H5 D = some (.dT kvs) ∧ kvs.length < sizeLine ∧ Nx (upd H5 D (.dT (putK kvs k z))) else Nx H3)) : tDcT wi g tt tk tv vs σ H1 Q := q
end
section
variable {X : Cx}
/-- set(t), t a tuple of ints -/
def rSetTI (K : PySem.W.Frag) (w : World) : List V → Hp → VK → Prop := fun xs H Q => ∃ (p : Addr) (ns : List Int), xs = [.ref p] ∧ SqT K H p (ns.map V.int) ∧ ns.length ≤ 1000 ∧
  ∀ (a : Addr) (c : Nat) H2, H a = none → c ≤ ns.length → (∀ o, G o H H2) → H2 a = some (SetO w a (fun j => decide (j ∈ ns)) c) → Q (.ref a) H2
theorem cr_setTI (hc : X.calm = true) : CallR X (.type "set") (rSetTI X.K X.w) := by
  intro pins s σ H vs us Q I r h
  obtain ⟨p, ns, rfl, hp, hz, q⟩ := h
  rw [Vals.ref1 r]
  obtain ⟨its, rv, pt, _⟩ := I.tuple hp
  have free : H s.heap.objs.size = none := I.hok.fresh (Nat.le_refl _)
  refine call_set_tupI ns (I.ok.hd hc) pt (ints_of_vals rv) (by unfold scanBound; omega) fun h' tk c R hc' keep => ?_
  exact ⟨.ref s.heap.objs.size, _, I.laid (t' := tk) keep (Nat.le_refl _) (setO_new R), rfl, q _ c _ free hc' (fun _ => G.alloc free) upd_same⟩
/-- sorted(a set of ints) -/
def rSortSI (w : World) : List V → Hp → VK → Prop := fun vs H Q => ∃ (a : Addr) (S : Int → Bool) (n : Nat), vs = [V.ref a] ∧ H a = some (SetO w a S n) ∧ n < 64 ∧
  ∀ (ns : List Int) (p : Addr) H2, ns.Pairwise (· < ·) → (∀ k : Int, k ∈ ns ↔ S k = true) → (∀ o, G o H H2) → H2 p = some (.lst (ns.map V.int)) → Q (.ref p) H2
theorem cr_sortSI (hc : X.calm = true) : CallR X (.builtin "sorted") (rSortSI X.w) := CallR.weak (cr_sortedSet hc) fun vs H Q h => by
  obtain ⟨a, S, n, e, ha, hn, q⟩ := h
  exact ⟨a, S, n, e, ha, hn, fun ns p h1 h2 _ hp => q ns p _ h1 h2 (fun _ => G.alloc hp) upd_same⟩
end
end GA
/-! ## GX -/
namespace GA
open PySem PySem.Spec PyProof.Rows L2
/-! ### any thing, as far as it is looked at -/
inductive Tg where
  | non
  | bl (b : Bool)
  | int (i : Int)
  | str (s : Str)
  | tup (ts : List Tg)
  | oth
/-- an object that is neither a tuple nor flat: a list, a dict, an instance of the class at C -/
def Oth (C : Addr → Prop) (H : Hp) (a : Addr) : Prop := (∃ xs, H a = some (.lst xs)) ∨ (∃ kvs, H a = some (.dK kvs)) ∨ ∃ c dx fs, C c ∧ H a = some (.ins c dx fs)
mutual
inductive Ab (C : Addr → Prop) (hd : Addr) (H : Hp) : V → Tg → Prop
  | non : Ab C hd H .non .non
  | bl (b : Bool) : Ab C hd H (.bl b) (.bl b)
  | int (i : Int) : Ab C hd H (.int i) (.int i)
  | str (x : Str) : Ab C hd H (.str x) (.str x)
  | tup {a : Addr} {xs : List V} {ts : List Tg} : Rd H a (.tup xs) → AbAll C hd H xs ts → Ab C hd H (.ref a) (.tup ts)
  | oth {a : Addr} : a ≠ hd → Oth C H a → Ab C hd H (.ref a) .oth
inductive AbAll (C : Addr → Prop) (hd : Addr) (H : Hp) : List V → List Tg → Prop
  | nil : AbAll C hd H [] []
  | cons {v : V} {vs : List V} {t : Tg} {ts : List Tg} : Ab C hd H v t → AbAll C hd H vs ts → AbAll C hd H (v :: vs) (t :: ts)
end
theorem Oth.k {C : Addr → Prop} {H H' : Hp} {a : Addr} (h : Oth C H a) (k : ∀ u, H a = some u → H' a = some u) : Oth C H' a := by
  rcases h with ⟨xs, h⟩ | ⟨kvs, h⟩ | ⟨c, dx, fs, hc, h⟩
  · exact .inl ⟨xs, k _ h⟩
  · exact .inr (.inl ⟨kvs, k _ h⟩)
  · exact .inr (.inr ⟨c, dx, fs, hc, k _ h⟩)
mutual
theorem Ab.k {C : Addr → Prop} {hd : Addr} {H H' : Hp} (t : Ts H H') (k : ∀ a u, a ≠ hd → H a = some u → H' a = some u) : ∀ (g : Tg) (v : V), Ab C hd H v g → Ab C hd H' v g
  | .non, _, h => by cases h; exact .non
  | .bl b, _, h => by cases h; exact .bl b
  | .int b, _, h => by cases h; exact .int b
  | .str b, _, h => by cases h; exact .str b
  | .oth, _, h => by
    cases h with
    | oth n o => exact .oth n (o.k fun u e => k _ u n e)
  | .tup ts, _, h => by
    cases h with
    | tup r a => exact .tup (t _ _ r) (AbAll.k t k ts _ a)
theorem AbAll.k {C : Addr → Prop} {hd : Addr} {H H' : Hp} (t : Ts H H') (k : ∀ a u, a ≠ hd → H a = some u → H' a = some u) : ∀ (gs : List Tg) (vs : List V), AbAll C hd H vs gs → AbAll C hd H' vs gs
  | [], _, h => by cases h; exact .nil
  | g :: gs, _, h => by
    cases h with
    | cons h1 h2 => exact .cons (Ab.k t k g _ h1) (AbAll.k t k gs _ h2)
end
/-- whatever may change is the hand alone -/
def OH (o : Option (Addr × Addr)) (hd : Addr) : Prop := ∀ p, o = some p → p.1 = hd
theorem OH.n {hd : Addr} : OH none hd := fun _ e => nomatch e
theorem OH.s {hd c : Addr} : OH (some (hd, c)) hd := fun _ e => by cases e; rfl
section
variable {C : Addr → Prop} {hd : Addr} {H H' : Hp} {o : Option (Addr × Addr)}
theorem Ab.g {v : V} {t : Tg} (h : Ab C hd H v t) (g : G o H H') (oh : OH o hd) : Ab C hd H' v t := h.k g.tups (fun a u n e => g.keep a u (fun p ep z => n (z.trans (oh p ep))) e) t v
theorem AbAll.g {vs : List V} {ts : List Tg} (h : AbAll C hd H vs ts) (g : G o H H') (oh : OH o hd) : AbAll C hd H' vs ts := h.k g.tups (fun a u n e => g.keep a u (fun p ep z => n (z.trans (oh p ep))) e) ts vs
theorem Ab.n {v : V} {t : Tg} (h : Ab C hd H v t) (g : G none H H') : Ab C hd H' v t := h.g g OH.n
theorem AbAll.n {vs : List V} {ts : List Tg} (h : AbAll C hd H vs ts) (g : G none H H') : AbAll C hd H' vs ts := h.g g OH.n
theorem AbAll.length : ∀ {vs : List V} {ts : List Tg}, AbAll C hd H vs ts → vs.length = ts.length
  | _, _, .nil => rfl
  | _, _, .cons _ t => by simp [AbAll.length t]
theorem AbAll.get : ∀ {vs : List V} {ts : List Tg} {i : Nat} {v : V}, AbAll C hd H vs ts → vs[i]? = some v → ∃ t, ts[i]? = some t ∧ Ab C hd H v t
  | _, _, _, _, .nil, e => by simp at e
  | _, _, 0, _, .cons h _, e => by simp at e; subst e; exact ⟨_, rfl, h⟩
  | _, _, i + 1, v, .cons _ t, e => by
    obtain ⟨d, h1, h2⟩ := AbAll.get (i := i) (v := v) t (by simpa using e)
    exact ⟨d, by simpa using h1, h2⟩
theorem AbAll.get' : ∀ {vs : List V} {ts : List Tg} {i : Nat} {t : Tg}, AbAll C hd H vs ts → ts[i]? = some t → ∃ v, vs[i]? = some v ∧ Ab C hd H v t
  | _, _, _, _, .nil, e => by simp at e
  | _, _, 0, _, .cons h _, e => by simp at e; subst e; exact ⟨_, rfl, h⟩
  | _, _, i + 1, v, .cons _ t, e => by
    obtain ⟨d, h1, h2⟩ := AbAll.get' (i := i) (t := v) t (by simpa using e)
    exact ⟨d, by simpa using h1, h2⟩
theorem AbAll.app : ∀ {vs ws : List V} {ts us : List Tg}, AbAll C hd H vs ts → AbAll C hd H ws us → AbAll C hd H (vs ++ ws) (ts ++ us)
  | _, _, _, _, .nil, h => h
  | _, _, _, _, .cons h t, h' => .cons h (AbAll.app t h')
theorem AbAll.take : ∀ {vs : List V} {ts : List Tg} (n : Nat), AbAll C hd H vs ts → AbAll C hd H (vs.take n) (ts.take n)
  | _, _, 0, _ => by simp; exact .nil
  | _, _, n + 1, .nil => by simp; exact .nil
  | _, _, n + 1, .cons h t => by simp; exact .cons h (AbAll.take n t)
theorem AbAll.drop : ∀ {vs : List V} {ts : List Tg} (n : Nat), AbAll C hd H vs ts → AbAll C hd H (vs.drop n) (ts.drop n)
  | _, _, 0, h => h
  | _, _, n + 1, .nil => by simp; exact .nil
  | _, _, n + 1, .cons h t => by simp; exact AbAll.drop n t
theorem rd_one {a : Addr} {xs ys : List V} (h : Rd H a (.tup xs)) (h' : Rd H a (.tup ys)) : xs = ys := by
  rcases h with h | ⟨o, h⟩ <;> rcases h' with h' | ⟨o', h'⟩ <;> rw [h] at h' <;> cases h' <;> rfl
theorem rd_oth {a : Addr} {xs : List V} (h : Rd H a (.tup xs)) (h' : Oth C H a) : False := by
  rcases h with h | ⟨o, h⟩ <;> rcases h' with ⟨_, h'⟩ | ⟨_, h'⟩ | ⟨_, _, _, _, h'⟩ <;> rw [h] at h' <;> cases h'
mutual
theorem Ab.one : ∀ (g : Tg) (v : V) (g' : Tg), Ab C hd H v g → Ab C hd H v g' → g = g'
  | .non, _, _, h, h' => by cases h; cases h'; rfl
  | .bl b, _, _, h, h' => by cases h; cases h'; rfl
  | .int b, _, _, h, h' => by cases h; cases h'; rfl
  | .str b, _, _, h, h' => by cases h; cases h'; rfl
  | .oth, _, _, h, h' => by
    cases h with
    | oth n o =>
      cases h' with
      | oth _ _ => rfl
      | tup r _ => exact (rd_oth r o).elim
  | .tup ts, _, _, h, h' => by
    cases h with
    | tup r a =>
      cases h' with
      | oth _ o => exact (rd_oth r o).elim
      | tup r' a' =>
        obtain rfl := rd_one r r'
        rw [AbAll.one ts _ _ a a']
theorem AbAll.one : ∀ (gs : List Tg) (vs : List V) (gs' : List Tg), AbAll C hd H vs gs → AbAll C hd H vs gs' → gs = gs'
  | [], _, _, h, h' => by cases h; cases h'; rfl
  | g :: gs, _, _, h, h' => by
    cases h with
    | cons h1 h2 =>
      cases h' with
      | cons h1' h2' => rw [Ab.one g _ _ h1 h1', AbAll.one gs _ _ h2 h2']
end
end
/-! ### isinstance of them -/
structure InsK (K : PySem.W.Frag) (C : Addr → Prop) : Prop where
  ic : ∀ c, C c → C8.InsC K c
  int : ∀ c, C c → PySem.W.kitOne K (.ref c) (.type "int") = some false
  bool : ∀ c, C c → PySem.W.kitOne K (.ref c) (.type "bool") = some false
  tuple : ∀ c, C c → PySem.W.kitOne K (.ref c) (.type "tuple") = some false
  str : ∀ c, C c → PySem.W.kitOne K (.ref c) (.type "str") = some false
def isT : String → Tg → Bool
  | "int", .int _ => true
  | "int", .bl _ => true
  | "bool", .bl _ => true
  | "str", .str _ => true
  | "tuple", .tup _ => true
  | _, _ => false
theorem ab_isi {K : PySem.W.Frag} {C : Addr → Prop} {hd : Addr} {H : Hp} {v : V} {t : Tg} {n : String} {Q : VK} (I : InsK K C) (h : Ab C hd H v t) (hn : n = "int" ∨ n = "bool" ∨ n = "str" ∨ n = "tuple") (q : Q (.bl (isT n t)) H) : rIsi K [v, .ty n] H Q := by
  have mk : ∀ (ty : Value) (b : Bool), TyX K H v ty → PySem.W.kitOne K ty (.type n) = some b → isT n t = b → rIsi K [v, .ty n] H Q := fun ty b h1 h2 h3 => ⟨v, .ty n, ty, .type n, b, rfl, .ty n, h1, h2, h3 ▸ q⟩
  cases h with
  | non => exact mk _ (isT n .non) (.base .non) (by rcases hn with rfl | rfl | rfl | rfl <;> exact kit_ty (by decide +kernel)) rfl
  | bl b => exact mk _ (isT n (.bl b)) (.base (.bl b)) (by rcases hn with rfl | rfl | rfl | rfl <;> exact kit_ty (by cases b <;> decide +kernel)) rfl
  | int i => exact mk _ (isT n (.int 0)) (.base (.int i)) (by rcases hn with rfl | rfl | rfl | rfl <;> exact kit_ty (by decide +kernel)) (by rcases hn with rfl | rfl | rfl | rfl <;> rfl)
  | str x => exact mk _ (isT n (.str "")) (.base (.str x)) (by rcases hn with rfl | rfl | rfl | rfl <;> exact kit_ty (by decide +kernel)) (by rcases hn with rfl | rfl | rfl | rfl <;> rfl)
  | @tup a xs ts r al =>
    have ty : TyX K H (.ref a) (.type "tuple") := by
      rcases r with r | ⟨o, r⟩
      · exact .base (.tup r)
      · exact .fTuple r
    exact mk _ (isT n (.tup [])) ty (by rcases hn with rfl | rfl | rfl | rfl <;> exact kit_ty (by decide +kernel)) (by rcases hn with rfl | rfl | rfl | rfl <;> rfl)
  | @oth a ne o =>
    rcases o with ⟨xs, o⟩ | ⟨kvs, o⟩ | ⟨c, dx, fs, hc, o⟩
    · exact mk _ (isT n .oth) (.base (.lst o)) (by rcases hn with rfl | rfl | rfl | rfl <;> exact kit_ty (by decide +kernel)) rfl
    · exact mk _ (isT n .oth) (.base (.dK o)) (by rcases hn with rfl | rfl | rfl | rfl <;> exact kit_ty (by decide +kernel)) rfl
    · refine mk _ (isT n .oth) (.base (.ins o (I.ic c hc).cl (I.ic c hc).ha (I.ic c hc).hn (I.ic c hc).htk (I.ic c hc).hm)) ?_ rfl
      rcases hn with rfl | rfl | rfl | rfl
      · exact I.int c hc
      · exact I.bool c hc
      · exact I.str c hc
      · exact I.tuple c hc
/-! ### t >= u, tuples of ints -/
def rGeT (K : PySem.W.Frag) : R2 := fun x y H Q => ∃ (a b : Addr) (ns ms : List Int), x = .ref a ∧ y = .ref b ∧ SqT K H a (ns.map V.int) ∧ SqT K H b (ms.map V.int) ∧
  Q (.bl (Ob.lexAt (fun j => decide (ns.getD j 0 = ms.getD j 0)) (fun j => decide (ms.getD j 0 ≤ ns.getD j 0)) (decide (ns.length ≥ ms.length)) 0 (min ns.length ms.length))) H
theorem op_geT {X : Cx} (hu : X.A.units < cLine) : OpR X (compareOp .GtE) (rGeT X.K) := by
  intro pins s σ H x y v u Q I rx ry h
  obtain ⟨a, b, ns, ms, rfl, rfl, ha, hb, q⟩ := h
  cases rx
  cases ry
  obtain ⟨its, r1, p1, _⟩ := I.tuple ha
  obtain ⟨its2, r2, p2, _⟩ := I.tuple hb
  have i1 : IntsAre its ns := Vals.ints r1
  have i2 : IntsAre its2 ms := Vals.ints r2
  have e1 : its.toArray.size = ns.length := by rw [List.size_toArray]; exact i1.length
  have e2 : its2.toArray.size = ms.length := by rw [List.size_toArray]; exact i2.length
  have at1 : ∀ j (h1 : j < its.toArray.size), ∃ t, its.toArray[j] = .int (ns.getD j 0) t := fun j h1 => PyProof.Rows.IntsAre.int_at i1 _ _ (by simp at h1; simp [h1])
  have at2 : ∀ j (h1 : j < its2.toArray.size), ∃ t, its2.toArray[j] = .int (ms.getD j 0) t := fun j h1 => PyProof.Rows.IntsAre.int_at i2 _ _ (by simp at h1; simp [h1])
  have R := Ob.RcOp.tuples_ge (A := X.A) (s := s) (e := fun j => decide (ns.getD j 0 = ms.getD j 0)) (r := fun j => decide (ms.getD j 0 ≤ ns.getD j 0)) p1 p2 hu (fun j h1 h2 => by
    obtain ⟨t, et⟩ := at1 j h1
    obtain ⟨t', et'⟩ := at2 j h2
    rw [et, et']
    have z : (ns.getD j 0 == ms.getD j 0) = decide (ns.getD j 0 = ms.getD j 0) := by
      by_cases q : ns.getD j 0 = ms.getD j 0
      · rw [decide_eq_true q]; exact beq_iff_eq.mpr q
      · rw [decide_eq_false q]; exact beq_eq_false_iff_ne.mpr q
    rw [← z]
    exact SeqAt.EqAt.int_int _ _ _ _) (fun j h1 h2 _ => by
    obtain ⟨t, et⟩ := at1 j h1
    obtain ⟨t', et'⟩ := at2 j h2
    rw [et, et']
    exact Ob.RcOp.ge_int _ _ _ _)
  rw [e1, e2] at R
  exact R X.prog X.w X.xe _ ⟨.bl _, H, I, rfl, q⟩
/-! ### tuples told by what they hold -/
def rCatR : R2 := fun x y H Q => ∃ a b xs ys, x = .ref a ∧ y = .ref b ∧ Rd H a (.tup xs) ∧ Rd H b (.tup ys) ∧ xs.length + ys.length ≤ 100000 ∧ ∀ p H2, (∀ o, G o H H2) → Rd H2 p (.tup (xs ++ ys)) → Q (.ref p) H2
theorem op_catR {X : Cx} : OpR X (binaryOp .Add) rCatR := OpR.weak op_catA fun x y H Q h => by
  obtain ⟨a, b, xs, ys, e1, e2, h1, h2, hz, q⟩ := h
  refine ⟨a, b, xs, ys, e1, e2, .inl h1, .inl h2, sz hz, fun e => ?_, fun _ e => ?_, fun _ _ p hp => ?_⟩
  · subst e; exact q b H (fun _ => G.refl) h2
  · subst e; exact q a H (fun _ => G.refl) (by rw [List.append_nil]; exact h1)
  · exact q p _ (fun _ => G.alloc hp) (.inl upd_same)
def rSlR : V → Option Int → Option Int → Hp → VK → Prop := fun x lo hi H Q => ∃ a xs, x = .ref a ∧ Rd H a (.tup xs) ∧ ∀ p H2, (∀ o, G o H H2) → Rd H2 p (.tup (cutV xs lo hi)) → Q (.ref p) H2
theorem sl_tupR {X : Cx} : SlR X rSlR := SlR.weak sl_tupA fun x lo hi H Q ⟨a, xs, e, h, q⟩ => ⟨a, xs, e, .inl h, fun w => q a H (fun _ => G.refl) (by
    have c : cutV xs lo hi = xs := by
      unfold cutV
      rw [w.1, w.2, List.drop_zero, Nat.sub_zero, List.take_length]
    rw [c]; exact h), fun _ p hp => q p _ (fun _ => G.alloc hp) (.inl upd_same)⟩
theorem kit_mro {K : PySem.W.Frag} {C : Addr} {n : String} {b : Bool} (h : PySem.W.mroIn K C (.type n) = some b) (hm : PySem.W.kitMeta n = true) : PySem.W.kitOne K (.ref C) (.type n) = some b := by
  unfold PySem.W.kitOne
  have e : ((Value.ref C : Value) == .type n) = false := rfl
  rw [e, if_neg Bool.false_ne_true]
  show (if PySem.W.kitMeta n = true then PySem.W.subIn K (.ref C) (.type n) else none) = some b
  rw [if_pos hm]
  exact h
end GA
/-! ## GY -/
namespace GA
open PySem PySem.Spec PyProof.Rows L2
/-! ### small things -/
mutual
def smT : Tg → Bool
  | .tup ts => decide (ts.length ≤ 60) && smTs ts
  | _ => true
def smTs : List Tg → Bool
  | [] => true
  | t :: ts => smT t && smTs ts
end
theorem smTs_all : ∀ {ts : List Tg}, smTs ts = true → ∀ t ∈ ts, smT t = true
  | [], _, _, h => nomatch h
  | t :: ts, h, u, hu => by
    rw [smTs, Bool.and_eq_true] at h
    rcases List.mem_cons.mp hu with e | e
    · rw [e]; exact h.1
    · exact smTs_all h.2 u e
theorem smTs_of : ∀ {ts : List Tg}, (∀ t ∈ ts, smT t = true) → smTs ts = true
  | [], _ => rfl
  | t :: ts, h => by
    rw [smTs, h t List.mem_cons_self, smTs_of fun u hu => h u (List.mem_cons_of_mem _ hu)]; rfl
theorem smT_tup {ts : List Tg} (h : smT (.tup ts) = true) : ts.length ≤ 60 ∧ ∀ t ∈ ts, smT t = true := by
  rw [smT, Bool.and_eq_true, decide_eq_true_eq] at h
  exact ⟨h.1, smTs_all h.2⟩
theorem smT_of {ts : List Tg} (h : ts.length ≤ 60) (k : ∀ t ∈ ts, smT t = true) : smT (.tup ts) = true := by
  rw [smT, smTs_of k, decide_eq_true h]; rfl
/-! ### t[::-1] of a tuple -/
theorem vals_pick {xs : List V} {its : List Value} (r : Vals xs its) (f : Nat → Nat) : ∀ l : List Nat, Vals (l.filterMap fun k => xs[f k]?) (l.filterMap fun k => its[f k]?)
  | [] => .nil
  | k :: l => by
    have ih := vals_pick r f l
    rw [List.filterMap_cons, List.filterMap_cons]
    by_cases c : f k < xs.length
    · obtain ⟨u, hu, ru⟩ := r.get (List.getElem?_eq_getElem c)
      rw [List.getElem?_eq_getElem c, hu]
      exact .cons ru ih
    · have c2 : ¬ f k < its.length := by rw [← r.length]; exact c
      rw [List.getElem?_eq_none (by omega), List.getElem?_eq_none (by omega)]
      exact ih
theorem pick_le {α : Type} (f : Nat → Option α) : ∀ l : List Nat, (l.filterMap f).length ≤ l.length := fun l => List.length_filterMap_le f l
theorem neg_adjust (n : Nat) : Builtin.Slice.sliceAdjust none none (-1) (n : Int) = ((n : Int) - 1, -1) := by
  unfold Builtin.Slice.sliceAdjust
  simp
theorem neg_places (n : Nat) : Builtin.Slice.slicePlaces ((n : Int) - 1) (-1) (-1) = n := by
  unfold Builtin.Slice.slicePlaces
  cases n with
  | zero => simp
  | succ n =>
    simp
    split <;> omega
section
variable {prog : Program} {w : World} {A : Around} {E : Value → Shared → Prop} {s : Shared}
theorem slice_back {sl : Addr} {vl vu vs : Value} {n : Nat} {Q : Int × Int × Nat → Shared → Prop} (hs : s.heap.IsSliceOf sl vl vu vs) (pl : IsPart vl none) (pu : IsPart vu none) (ps : IsPart vs (some (-1))) (h : Q ((n : Int) - 1, -1, n) s) :
    wpAny (model prog w) A (Builtin.Slice.sliceApplied (.ref sl) (pure (n : Int))) Q E s := by
  obtain ⟨os, hos, hcs, hds⟩ := id hs
  unfold Builtin.Slice.sliceApplied Builtin.Slice.sliceFields
  refine wpAny_bind (wpAny_bind (wpAny_field hos hds (x := vl) rfl (wpAny_bind (wpAny_field hos hds (x := vu) rfl (wpAny_bind (wpAny_field hos hds (x := vs) rfl (wpAny_pure ?_)))))))
  refine wpAny_bind (HT.slicePart_ ps ?_)
  show wpAny _ _ (if ((-1 : Int) == 0) = true then _ else _) _ _ s
  rw [if_neg (by decide)]
  refine wpAny_bind (HT.slicePart_ pl (wpAny_bind (HT.slicePart_ pu (wpAny_bind (wpAny_pure ?_)))))
  show wpAny _ _ (match Builtin.Slice.sliceAdjust none none (-1) (n : Int) with | (lo, hi) => pure (lo, (-1 : Int), Builtin.Slice.slicePlaces lo hi (-1))) _ _ s
  rw [neg_adjust]
  show wpAny _ _ (pure ((n : Int) - 1, (-1 : Int), Builtin.Slice.slicePlaces ((n : Int) - 1) (-1) (-1))) _ _ s
  rw [neg_places]
  exact wpAny_pure h
end
section
variable {X : Cx}
/-- t[::-1]: a new tuple of what t holds -/
def tRevT (K : PySem.W.Frag) (te : TE) : TE := fun σ H Q => te σ H fun x H1 => ∃ (a : Addr) (xs : List V), x = .ref a ∧ SqT K H1 a xs ∧ ∀ q H2, H1 q = none → (∀ o, G o H1 H2) → H2 q = some (.tup ((List.range xs.length).filterMap fun (k : Nat) => xs[(((xs.length : Int) - 1) + (k : Int) * (-1)).toNat]?)) → Q (.ref q) H2
theorem w_revT {K : PySem.W.Frag} {te : TE} {σ : L2.St} {H : Hp} {Q : VK} (q : te σ H fun x H1 => ∃ (a : Addr) (xs : List V), x = .ref a ∧ SqT K H1 a xs ∧ ∀ q H2, H1 q = none → (∀ o, G o H1 H2) → H2 q = some (.tup ((List.range xs.length).filterMap fun (k : Nat) => xs[(((xs.length : Int) - 1) + (k : Int) * (-1)).toNat]?)) → Q (.ref q) H2) : tRevT K te σ H Q := q
theorem pe_revT {e : Expr} {te : TE} {k : Nat} {p1 p2 p3 pos : Pos} (he : PE X e te) : PE X (.Subscript e (.Slice none none (some (.UnaryOp .USub (.Constant (.int 1) k p1) p2)) p3) pos) (tRevT X.K te) := by
  constructor
  intro pins s σ H Q I h
  refine Subscript_ (thn (he.run pins s σ H _ I h) fun v s1 z => ?_)
  obtain ⟨x, H1, I1, r1, a, xs, rfl, hx, q⟩ := z
  cases r1
  have hst : PO X (some (.UnaryOp .USub (.Constant (.int 1) k p1) p2)) (tPart (tUn (rU fun i => .int (-i)) (tC (.int 1)))) := po_some (pe_un un_neg pe_int)
  refine wpAny_Slice (thn (po_none.run pins s1 σ H1 (fun o H2 => o = none ∧ H2 = H1) I1 ⟨rfl, rfl⟩) fun vl s2 z2 => ?_)
  obtain ⟨_, H2, I2, pl, rfl, rfl⟩ := z2
  refine thn (po_none.run pins s2 σ H2 (fun o H3 => o = none ∧ H3 = H2) I2 ⟨rfl, rfl⟩) fun vu s3 z3 => ?_
  obtain ⟨_, H3, I3, pu, rfl, rfl⟩ := z3
  refine thn (hst.run pins s3 σ H3 (fun o H4 => o = some (-1) ∧ H4 = H3) I3 ⟨1, rfl, -1, rfl, rfl, rfl⟩) fun vs s4 z4 => ?_
  obtain ⟨_, H4, I4, ps, rfl, rfl⟩ := z4
  obtain ⟨S, eS⟩ : ∃ S : Shared, S = { s4 with heap := s4.heap.push { cls := .type "slice", data := .fields #[vl, vu, vs] } } := ⟨_, rfl⟩
  have I5 : Inv X pins σ H4 S := by rw [eS]; exact I4.kept (t' := s4.toks) fun b ob q => Heap.get?_push_of_some _ q
  obtain ⟨its, r, ht, hz⟩ := I5.tuple hx
  have hlen : its.toArray.size = xs.length := by rw [List.size_toArray]; exact r.length.symm
  have hsl : S.heap.IsSliceOf s4.heap.objs.size vl vu vs := by rw [eS]; exact Heap.IsSliceOf.new _ vl vu vs
  show wpAny (model X.prog X.w) X.A (subscriptTail e (.Slice none none (some (.UnaryOp .USub (.Constant (.int 1) k p1) p2)) p3) (.ref a) (.ref s4.heap.objs.size)) (EP X pins σ Q) X.xe { s4 with heap := s4.heap.push { cls := .type "slice", data := .fields #[vl, vu, vs] } }
  rw [← eS]
  refine tail_any (ops := [.ref a, .ref s4.heap.objs.size]) ht.typeIs PyProof.Rows.slot_tuple_getitem.lookup ?_ (by with_unfolding_all rfl)
  obtain ⟨os, hos, hcs, hds⟩ := id hsl
  have hTs : S.TypeIs (.ref s4.heap.objs.size) "slice" := ⟨os, hos, hcs⟩
  unfold getItem
  try with_reducible refine wpAny_holding ?_
  first | refine wpAny_bind (wpAny_pure ?_) | skip
  refine wpAny_bind (wpAny_sequenceKey ht.typeIs (by decide) ?_)
  refine wpAny_bind (wpAny_callSpecial?_slot (name := Str.ofString "__getitem__") ht.typeIs PyProof.Rows.slot_tuple_getitem (wpAny_call_entry PyProof.Rows.slot_tuple_getitem ht.typeIs PyProof.Rows.entry_tuple_getitem ?_ (PyProof.Rows.args_tuple_getitem _ _)))
  show wpAny _ _ (Builtin.Tuple.tupleItemsOf (.ref a) >>= _) _ _ S
  refine wpAny_bind (PyProof.Rows.tupleItemsOf_ ht ?_)
  refine wpAny_bind (wpAny_typeOf hTs ?_)
  rw [if_pos (by decide)]
  refine wpAny_bind (slice_back (n := its.toArray.size) hsl pl pu ps ?_)
  have hno : ¬ ((((its.toArray.size : Nat) : Int) - 1 == 0 && (-1 : Int) == 1 && its.toArray.size == its.toArray.size) = true) := by
    intro z
    rw [Bool.and_eq_true, Bool.and_eq_true] at z
    exact absurd z.1.2 (by decide)
  show wpAny _ _ (if (((its.toArray.size : Nat) : Int) - 1 == 0 && (-1 : Int) == 1 && its.toArray.size == its.toArray.size) = true then _ else _) _ _ S
  rw [if_neg hno]
  have rel := vals_pick r (fun (k : Nat) => (((xs.length : Int) - 1) + (k : Int) * (-1)).toNat) (List.range xs.length)
  have eit : ((List.range its.toArray.size).filterMap fun (k : Nat) => its.toArray[(((its.toArray.size : Nat) : Int) - 1 + (k : Int) * (-1)).toNat]?) = (List.range xs.length).filterMap fun (k : Nat) => its[(((xs.length : Int) - 1) + (k : Int) * (-1)).toNat]? := by
    rw [hlen]
    congr 1
    funext k
    simp
  have lz : ((List.range xs.length).filterMap fun (k : Nat) => its[(((xs.length : Int) - 1) + (k : Int) * (-1)).toNat]?).length ≤ sizeLine := by
    have := pick_le (fun (k : Nat) => its[(((xs.length : Int) - 1) + (k : Int) * (-1)).toNat]?) (List.range xs.length)
    rw [List.length_range] at this
    omega
  have new : H4 S.heap.objs.size = none := I5.hok.fresh (Nat.le_refl _)
  rw [eit]
  have fin : EP X pins σ Q (.ref S.heap.objs.size) { S with heap := S.heap.push { cls := .type "tuple", data := .seq ((List.range xs.length).filterMap fun (k : Nat) => its[(((xs.length : Int) - 1) + (k : Int) * (-1)).toNat]?).toArray } } := by
    refine ⟨.ref S.heap.objs.size, _, I5.laid (t' := S.toks) (o := .tup ((List.range xs.length).filterMap fun (k : Nat) => xs[(((xs.length : Int) - 1) + (k : Int) * (-1)).toNat]?)) (fun b ob q => Heap.get?_push_of_some _ q) (Nat.le_refl _) ?_, rfl, q _ _ new (fun _ => G.alloc new) upd_same⟩
    exact ⟨by rw [rel.length]; exact lz, _, rel, IsTup.new _ _⟩
  first
    | exact wpAny_bind (m := Builtin.Tuple.tupleExact _) (wpAny_newObj_type (wpAny_pure ⟨_, rfl, wpAny_pure fin⟩) (by show _ ≤ sizeLine; rw [List.size_toArray]; exact lz))
    | exact wpAny_bind (wpAny_bind (m := Builtin.Tuple.tupleExact _) (wpAny_newObj_type (wpAny_pure (wpAny_pure ⟨_, rfl, wpAny_pure fin⟩)) (by show _ ≤ sizeLine; rw [List.size_toArray]; exact lz)))
    | exact wpAny_bind (wpAny_bind (m := Builtin.Tuple.tupleExact _) (wpAny_newObj_type (wpAny_pure ⟨_, rfl, wpAny_pure fin⟩) (by show _ ≤ sizeLine; rw [List.size_toArray]; exact lz)))
end
end GA
/-! ## KH -/
namespace Mine
open PySem L2 GA
def top (i : Nat) : Stmt := PySem.Challenge.pw_growalong_k10_trees_and_bars_judged.main.body.getD i (.Pass ⟨0, 0, 0, 0⟩)
abbrev s_BadWeb_init : Stmt := inClass (top 2) 0
abbrev N_BadWeb_init : List Str := ["self", "part"]
abbrev P_BadWeb_init : List Str := ["self", "part"]
theorem sc_BadWeb_init : FnScope N_BadWeb_init P_BadWeb_init (defScope s_BadWeb_init) := ⟨rfl, rfl, rfl, by decide +kernel, rfl, by decide +kernel, by decide +kernel⟩
abbrev s_BadRecord_init : Stmt := inClass (top 3) 0
abbrev N_BadRecord_init : List Str := ["self", "part", "at"]
abbrev P_BadRecord_init : List Str := ["self", "part", "at"]
theorem sc_BadRecord_init : FnScope N_BadRecord_init P_BadRecord_init (defScope s_BadRecord_init) := ⟨rfl, rfl, rfl, by decide +kernel, rfl, by decide +kernel, by decide +kernel⟩
abbrev s_NoPut_init : Stmt := inClass (top 4) 0
abbrev N_NoPut_init : List Str := ["self"]
abbrev P_NoPut_init : List Str := ["self"]
theorem sc_NoPut_init : FnScope N_NoPut_init P_NoPut_init (defScope s_NoPut_init) := ⟨rfl, rfl, rfl, by decide +kernel, rfl, by decide +kernel, by decide +kernel⟩
abbrev s_OtherMachines_init : Stmt := inClass (top 5) 0
abbrev N_OtherMachines_init : List Str := ["self"]
abbrev P_OtherMachines_init : List Str := ["self"]
theorem sc_OtherMachines_init : FnScope N_OtherMachines_init P_OtherMachines_init (defScope s_OtherMachines_init) := ⟨rfl, rfl, rfl, by decide +kernel, rfl, by decide +kernel, by decide +kernel⟩
abbrev s_is_integer : Stmt := top 7
abbrev N_is_integer : List Str := ["thing"]
abbrev P_is_integer : List Str := ["thing"]
theorem sc_is_integer : FnScope N_is_integer P_is_integer (defScope s_is_integer) := ⟨rfl, rfl, rfl, by decide +kernel, rfl, by decide +kernel, by decide +kernel⟩
abbrev s_is_between : Stmt := top 8
abbrev N_is_between : List Str := ["low", "high", "thing"]
abbrev P_is_between : List Str := ["low", "high", "thing"]
theorem sc_is_between : FnScope N_is_between P_is_between (defScope s_is_between) := ⟨rfl, rfl, rfl, by decide +kernel, rfl, by decide +kernel, by decide +kernel⟩
abbrev s_is_below : Stmt := top 9
abbrev N_is_below : List Str := ["bound", "thing"]
abbrev P_is_below : List Str := ["bound", "thing"]
theorem sc_is_below : FnScope N_is_below P_is_below (defScope s_is_below) := ⟨rfl, rfl, rfl, by decide +kernel, rfl, by decide +kernel, by decide +kernel⟩
abbrev s_is_tuple_of : Stmt := top 10
abbrev N_is_tuple_of : List Str := ["least", "most", "thing"]
abbrev P_is_tuple_of : List Str := ["least", "most", "thing"]
theorem sc_is_tuple_of : FnScope N_is_tuple_of P_is_tuple_of (defScope s_is_tuple_of) := ⟨rfl, rfl, rfl, by decide +kernel, rfl, by decide +kernel, by decide +kernel⟩
abbrev s_are_below : Stmt := top 11
abbrev N_are_below : List Str := ["bound", "things", "thing"]
abbrev P_are_below : List Str := ["bound", "things"]
theorem sc_are_below : FnScope N_are_below P_are_below (defScope s_are_below) := ⟨rfl, rfl, rfl, by decide +kernel, rfl, by decide +kernel, by decide +kernel⟩
abbrev s_is_unlike_pair : Stmt := top 12
abbrev N_is_unlike_pair : List Str := ["bound", "thing"]
abbrev P_is_unlike_pair : List Str := ["bound", "thing"]
theorem sc_is_unlike_pair : FnScope N_is_unlike_pair P_is_unlike_pair (defScope s_is_unlike_pair) := ⟨rfl, rfl, rfl, by decide +kernel, rfl, by decide +kernel, by decide +kernel⟩
abbrev s_are_ascending : Stmt := top 13
abbrev N_are_ascending : List Str := ["things", "one", "other"]
abbrev P_are_ascending : List Str := ["things"]
theorem sc_are_ascending : FnScope N_are_ascending P_are_ascending (defScope s_are_ascending) := ⟨rfl, rfl, rfl, by decide +kernel, rfl, by decide +kernel, by decide +kernel⟩
abbrev s_is_lot : Stmt := top 14
abbrev N_is_lot : List Str := ["bound", "thing"]
abbrev P_is_lot : List Str := ["bound", "thing"]
theorem sc_is_lot : FnScope N_is_lot P_is_lot (defScope s_is_lot) := ⟨rfl, rfl, rfl, by decide +kernel, rfl, by decide +kernel, by decide +kernel⟩
abbrev s_Web_init : Stmt := inClass (top 17) 0
abbrev N_Web_init : List Str := ["self", "machines", "wires", "at"]
abbrev P_Web_init : List Str := ["self", "machines", "wires"]
theorem sc_Web_init : FnScope N_Web_init P_Web_init (defScope s_Web_init) := ⟨rfl, rfl, rfl, by decide +kernel, rfl, by decide +kernel, by decide +kernel⟩
abbrev s_Web_eq : Stmt := inClass (top 17) 1
abbrev N_Web_eq : List Str := ["self", "other"]
abbrev P_Web_eq : List Str := ["self", "other"]
theorem sc_Web_eq : FnScope N_Web_eq P_Web_eq (defScope s_Web_eq) := ⟨rfl, rfl, rfl, by decide +kernel, rfl, by decide +kernel, by decide +kernel⟩
abbrev s_first_wrong_wire : Stmt := top 18
abbrev N_first_wrong_wire : List Str := ["machines", "wires", "at", "wire"]
abbrev P_first_wrong_wire : List Str := ["machines", "wires"]
theorem sc_first_wrong_wire : FnScope N_first_wrong_wire P_first_wrong_wire (defScope s_first_wrong_wire) := ⟨rfl, rfl, rfl, by decide +kernel, rfl, by decide +kernel, by decide +kernel⟩
abbrev s_ways_from : Stmt := top 19
abbrev N_ways_from : List Str := ["machine", "wires", "onward", "y", "x", "found", "queue", "at", "here"]
abbrev P_ways_from : List Str := ["machine", "wires"]
theorem sc_ways_from : FnScope N_ways_from P_ways_from (defScope s_ways_from) := ⟨rfl, rfl, rfl, by decide +kernel, rfl, by decide +kernel, by decide +kernel⟩
abbrev s_Record_init : Stmt := inClass (top 22) 0
abbrev N_Record_init : List Str := ["self", "writers", "diaries"]
abbrev P_Record_init : List Str := ["self", "writers", "diaries"]
theorem sc_Record_init : FnScope N_Record_init P_Record_init (defScope s_Record_init) := ⟨rfl, rfl, rfl, by decide +kernel, rfl, by decide +kernel, by decide +kernel⟩
abbrev s_Record_eq : Stmt := inClass (top 22) 1
abbrev N_Record_eq : List Str := ["self", "other"]
abbrev P_Record_eq : List Str := ["self", "other"]
theorem sc_Record_eq : FnScope N_Record_eq P_Record_eq (defScope s_Record_eq) := ⟨rfl, rfl, rfl, by decide +kernel, rfl, by decide +kernel, by decide +kernel⟩
abbrev s_check_record : Stmt := top 23
abbrev N_check_record : List Str := ["writers", "diaries", "put", "writer", "machine", "diary"]
abbrev P_check_record : List Str := ["writers", "diaries"]
theorem sc_check_record : FnScope N_check_record P_check_record (defScope s_check_record) := ⟨rfl, rfl, rfl, by decide +kernel, rfl, by decide +kernel, by decide +kernel⟩
abbrev s_is_diary : Stmt := top 24
abbrev N_is_diary : List Str := ["puts", "thing"]
abbrev P_is_diary : List Str := ["puts", "thing"]
theorem sc_is_diary : FnScope N_is_diary P_is_diary (defScope s_is_diary) := ⟨rfl, rfl, rfl, by decide +kernel, rfl, by decide +kernel, by decide +kernel⟩
abbrev s_check_machines : Stmt := top 25
abbrev N_check_machines : List Str := ["machines", "record"]
abbrev P_check_machines : List Str := ["machines", "record"]
theorem sc_check_machines : FnScope N_check_machines P_check_machines (defScope s_check_machines) := ⟨rfl, rfl, rfl, by decide +kernel, rfl, by decide +kernel, by decide +kernel⟩
abbrev s_check_put : Stmt := top 26
abbrev N_check_put : List Str := ["record", "put"]
abbrev P_check_put : List Str := ["record", "put"]
theorem sc_check_put : FnScope N_check_put P_check_put (defScope s_check_put) := ⟨rfl, rfl, rfl, by decide +kernel, rfl, by decide +kernel, by decide +kernel⟩
abbrev s_places_in : Stmt := top 28
abbrev N_places_in : List Str := ["diary", "at", "put"]
abbrev P_places_in : List Str := ["diary"]
theorem sc_places_in : FnScope N_places_in P_places_in (defScope s_places_in) := ⟨rfl, rfl, rfl, by decide +kernel, rfl, by decide +kernel, by decide +kernel⟩
abbrev s_grown_over : Stmt := top 29
abbrev N_grown_over : List Str := ["diary", "places", "found", "latest", "put"]
abbrev P_grown_over : List Str := ["diary", "places"]
theorem sc_grown_over : FnScope N_grown_over P_grown_over (defScope s_grown_over) := ⟨rfl, rfl, rfl, by decide +kernel, rfl, by decide +kernel, by decide +kernel⟩
abbrev s_wires_by_put : Stmt := top 30
abbrev N_wires_by_put : List Str := ["web", "record", "places", "wires", "y", "x", "put", "diary", "_"]
abbrev P_wires_by_put : List Str := ["web", "record"]
theorem sc_wires_by_put : FnScope N_wires_by_put P_wires_by_put (defScope s_wires_by_put) := ⟨rfl, rfl, rfl, by decide +kernel, rfl, by decide +kernel, by decide +kernel⟩
abbrev s_holders_by_put : Stmt := top 31
abbrev N_holders_by_put : List Str := ["record", "holders", "machine", "diary", "put", "_"]
abbrev P_holders_by_put : List Str := ["record"]
theorem sc_holders_by_put : FnScope N_holders_by_put P_holders_by_put (defScope s_holders_by_put) := ⟨rfl, rfl, rfl, by decide +kernel, rfl, by decide +kernel, by decide +kernel⟩
abbrev s_growing : Stmt := top 32
abbrev N_growing : List Str := ["web", "record", "put"]
abbrev P_growing : List Str := ["web", "record", "put"]
theorem sc_growing : FnScope N_growing P_growing (defScope s_growing) := ⟨rfl, rfl, rfl, by decide +kernel, rfl, by decide +kernel, by decide +kernel⟩
abbrev s_bar : Stmt := top 33
abbrev N_bar : List Str := ["web", "record", "wires", "put", "holders", "found", "machine"]
abbrev P_bar : List Str := ["web", "record"]
theorem sc_bar : FnScope N_bar P_bar (defScope s_bar) := ⟨rfl, rfl, rfl, by decide +kernel, rfl, by decide +kernel, by decide +kernel⟩
abbrev s_is_bar : Stmt := top 34
abbrev N_is_bar : List Str := ["web", "record", "thing", "put", "lot", "holders", "machine", "y", "x"]
abbrev P_is_bar : List Str := ["web", "record", "thing"]
theorem sc_is_bar : FnScope N_is_bar P_is_bar (defScope s_is_bar) := ⟨rfl, rfl, rfl, by decide +kernel, rfl, by decide +kernel, by decide +kernel⟩
abbrev s_is_made : Stmt := top 35
abbrev N_is_made : List Str := ["web", "record"]
abbrev P_is_made : List Str := ["web", "record"]
theorem sc_is_made : FnScope N_is_made P_is_made (defScope s_is_made) := ⟨rfl, rfl, rfl, by decide +kernel, rfl, by decide +kernel, by decide +kernel⟩
abbrev s_trees : Stmt := top 36
abbrev N_trees : List Str := ["web", "record", "told", "put", "wires", "found", "machine"]
abbrev P_trees : List Str := ["web", "record"]
theorem sc_trees : FnScope N_trees P_trees (defScope s_trees) := ⟨rfl, rfl, rfl, by decide +kernel, rfl, by decide +kernel, by decide +kernel⟩
abbrev s_is_trees : Stmt := top 37
abbrev N_is_trees : List Str := ["web", "record", "thing", "puts", "wires", "holders", "put", "tree"]
abbrev P_is_trees : List Str := ["web", "record", "thing"]
theorem sc_is_trees : FnScope N_is_trees P_is_trees (defScope s_is_trees) := ⟨rfl, rfl, rfl, by decide +kernel, rfl, by decide +kernel, by decide +kernel⟩
abbrev s_is_tree : Stmt := top 38
abbrev N_is_tree : List Str := ["record", "put", "wires", "holders", "thing", "machines", "taken", "growing_ones", "x", "y", "wire"]
abbrev P_is_tree : List Str := ["record", "put", "wires", "holders", "thing"]
theorem sc_is_tree : FnScope N_is_tree P_is_tree (defScope s_is_tree) := ⟨rfl, rfl, rfl, by decide +kernel, rfl, by decide +kernel, by decide +kernel⟩
abbrev s__law_hand : Stmt := top 40
abbrev N__law_hand : List Str := ["_law_script", "_law_cells", "_law_cell"]
abbrev P__law_hand : List Str := ["_law_script"]
theorem sc__law_hand : FnScope N__law_hand P__law_hand (defScope s__law_hand) := ⟨rfl, rfl, rfl, by decide +kernel, rfl, by decide +kernel, by decide +kernel⟩
abbrev s__law_draw : Stmt := top 41
abbrev N__law_draw : List Str := ["_law_hand_here", "_law_many", "_law_cell", "_law_digit", "_law_number"]
abbrev P__law_draw : List Str := ["_law_hand_here", "_law_many"]
theorem sc__law_draw : FnScope N__law_draw P__law_draw (defScope s__law_draw) := ⟨rfl, rfl, rfl, by decide +kernel, rfl, by decide +kernel, by decide +kernel⟩
abbrev s__law_flag : Stmt := top 42
abbrev N__law_flag : List Str := ["_law_told", "_law_due"]
abbrev P__law_flag : List Str := ["_law_told", "_law_due"]
theorem sc__law_flag : FnScope N__law_flag P__law_flag (defScope s__law_flag) := ⟨rfl, rfl, rfl, by decide +kernel, rfl, by decide +kernel, by decide +kernel⟩
abbrev s__law_deep : Stmt := top 43
abbrev N__law_deep : List Str := ["_law_hand_here", "_law_found", "_law_turn"]
abbrev P__law_deep : List Str := ["_law_hand_here"]
theorem sc__law_deep : FnScope N__law_deep P__law_deep (defScope s__law_deep) := ⟨rfl, rfl, rfl, by decide +kernel, rfl, by decide +kernel, by decide +kernel⟩
abbrev s__law_web : Stmt := top 44
abbrev N__law_web : List Str := ["_law_hand_here", "_law_machines", "_law_kind", "_law_found", "_law_y", "_law_x", "_law_near"]
abbrev P__law_web : List Str := ["_law_hand_here", "_law_machines"]
theorem sc__law_web : FnScope N__law_web P__law_web (defScope s__law_web) := ⟨rfl, rfl, rfl, by decide +kernel, rfl, by decide +kernel, by decide +kernel⟩
abbrev s__law_ran : Stmt := top 45
abbrev N__law_ran : List Str := ["_law_hand_here", "_law_machines", "_law_wires", "_law_writers", "_law_most", "_law_diaries", "_law_wire", "_law_letters", "_law_left", "_law_steps", "_law_more", "_law_turn", "_law_ready", "_law_put", "_law_x", "_law_y", "_law_machine", "_law_diary"]
abbrev P__law_ran : List Str := ["_law_hand_here", "_law_machines", "_law_wires", "_law_writers", "_law_most"]
theorem sc__law_ran : FnScope N__law_ran P__law_ran (defScope s__law_ran) := ⟨rfl, rfl, rfl, by decide +kernel, rfl, by decide +kernel, by decide +kernel⟩
abbrev s__law_bent : Stmt := top 46
abbrev N__law_bent : List Str := ["_law_hand_here", "_law_writers", "_law_diaries", "_law_x", "_law_own", "_law_kind", "_law_at", "_law_others", "_law_lacking", "_law_put"]
abbrev P__law_bent : List Str := ["_law_hand_here", "_law_writers", "_law_diaries"]
theorem sc__law_bent : FnScope N__law_bent P__law_bent (defScope s__law_bent) := ⟨rfl, rfl, rfl, by decide +kernel, rfl, by decide +kernel, by decide +kernel⟩
abbrev s__law_parts : Stmt := top 47
abbrev N__law_parts : List Str := ["_law_hand_here", "_law_most_machines", "_law_most_puts", "_law_machines", "_law_wires", "_law_writers", "_law_diaries", "_law_turn", "_law_put"]
abbrev P__law_parts : List Str := ["_law_hand_here", "_law_most_machines", "_law_most_puts"]
theorem sc__law_parts : FnScope N__law_parts P__law_parts (defScope s__law_parts) := ⟨rfl, rfl, rfl, by decide +kernel, rfl, by decide +kernel, by decide +kernel⟩
abbrev s__law_grow : Stmt := top 48
abbrev N__law_grow : List Str := ["_law_wires", "_law_diaries", "_law_put", "_law_found", "_law_y", "_law_x", "_law_own", "_law_other"]
abbrev P__law_grow : List Str := ["_law_wires", "_law_diaries", "_law_put"]
theorem sc__law_grow : FnScope N__law_grow P__law_grow (defScope s__law_grow) := ⟨rfl, rfl, rfl, by decide +kernel, rfl, by decide +kernel, by decide +kernel⟩
abbrev s__law_is_whole : Stmt := top 49
abbrev N__law_is_whole : List Str := ["_law_thing", "_law_many"]
abbrev P__law_is_whole : List Str := ["_law_thing", "_law_many"]
theorem sc__law_is_whole : FnScope N__law_is_whole P__law_is_whole (defScope s__law_is_whole) := ⟨rfl, rfl, rfl, by decide +kernel, rfl, by decide +kernel, by decide +kernel⟩
abbrev s__law_is_tree : Stmt := top 50
abbrev N__law_is_tree : List Str := ["_law_wires", "_law_writers", "_law_diaries", "_law_put", "_law_tree", "_law_grow_here", "_law_x", "_law_home", "_law_turn"]
abbrev P__law_is_tree : List Str := ["_law_wires", "_law_writers", "_law_diaries", "_law_put", "_law_tree"]
theorem sc__law_is_tree : FnScope N__law_is_tree P__law_is_tree (defScope s__law_is_tree) := ⟨rfl, rfl, rfl, by decide +kernel, rfl, by decide +kernel, by decide +kernel⟩
abbrev s__law_bars : Stmt := top 51
abbrev N__law_bars : List Str := ["_law_wires", "_law_writers", "_law_diaries", "_law_thing", "_law_put", "_law_lot", "_law_y", "_law_x"]
abbrev P__law_bars : List Str := ["_law_wires", "_law_writers", "_law_diaries", "_law_thing"]
theorem sc__law_bars : FnScope N__law_bars P__law_bars (defScope s__law_bars) := ⟨rfl, rfl, rfl, by decide +kernel, rfl, by decide +kernel, by decide +kernel⟩
abbrev s__law_odd : Stmt := top 52
abbrev N__law_odd : List Str := ["_law_hand_here", "_law_web_here", "_law_record", "_law_odds"]
abbrev P__law_odd : List Str := ["_law_hand_here", "_law_web_here", "_law_record"]
theorem sc__law_odd : FnScope N__law_odd P__law_odd (defScope s__law_odd) := ⟨rfl, rfl, rfl, by decide +kernel, rfl, by decide +kernel, by decide +kernel⟩
abbrev s__law_drawn_trees : Stmt := top 53
abbrev N__law_drawn_trees : List Str := ["_law_hand_here", "_law_wires", "_law_writers", "_law_diaries", "_law_found", "_law_put", "_law_grow_here", "_law_tree", "_law_x", "_law_some", "_law_here", "_law_wire"]
abbrev P__law_drawn_trees : List Str := ["_law_hand_here", "_law_wires", "_law_writers", "_law_diaries"]
theorem sc__law_drawn_trees : FnScope N__law_drawn_trees P__law_drawn_trees (defScope s__law_drawn_trees) := ⟨rfl, rfl, rfl, by decide +kernel, rfl, by decide +kernel, by decide +kernel⟩
abbrev s__law_bent_trees : Stmt := top 54
abbrev N__law_bent_trees : List Str := ["_law_hand_here", "_law_found", "_law_odd_here", "_law_at", "_law_tree", "_law_place", "_law_things", "_law_others", "_law_thing"]
abbrev P__law_bent_trees : List Str := ["_law_hand_here", "_law_found", "_law_odd_here"]
theorem sc__law_bent_trees : FnScope N__law_bent_trees P__law_bent_trees (defScope s__law_bent_trees) := ⟨rfl, rfl, rfl, by decide +kernel, rfl, by decide +kernel, by decide +kernel⟩
abbrev s__law_drawn_bar : Stmt := top 55
abbrev N__law_drawn_bar : List Str := ["_law_hand_here", "_law_writers", "_law_diaries", "_law_odd_here", "_law_put", "_law_some", "_law_lot", "_law_kind", "_law_lots", "_law_things", "_law_x"]
abbrev P__law_drawn_bar : List Str := ["_law_hand_here", "_law_writers", "_law_diaries", "_law_odd_here"]
theorem sc__law_drawn_bar : FnScope N__law_drawn_bar P__law_drawn_bar (defScope s__law_drawn_bar) := ⟨rfl, rfl, rfl, by decide +kernel, rfl, by decide +kernel, by decide +kernel⟩
abbrev s_law : Stmt := top 56
abbrev N_law : List Str := ["_law_script", "_law_hand_here", "_law_turn", "_law_machines", "_law_wires", "_law_writers", "_law_diaries", "_law_web_here", "_law_record", "_law_found", "_law_again", "_law_thing", "_law_due", "_law_put", "_law_tree"]
abbrev P_law : List Str := ["_law_script"]
theorem sc_law : FnScope N_law P_law (defScope s_law) := ⟨rfl, rfl, rfl, by decide +kernel, rfl, by decide +kernel, by decide +kernel⟩
structure Ads where
  f_is_integer : Addr
  d_is_integer : FuncData
  f_is_between : Addr
  d_is_between : FuncData
  f_is_below : Addr
  d_is_below : FuncData
  f_is_tuple_of : Addr
  d_is_tuple_of : FuncData
  f_are_below : Addr
  d_are_below : FuncData
  f_is_unlike_pair : Addr
  d_is_unlike_pair : FuncData
  f_are_ascending : Addr
  d_are_ascending : FuncData
  f_is_lot : Addr
  d_is_lot : FuncData
  f_Web_init : Addr
  d_Web_init : FuncData
  f_Web_eq : Addr
  d_Web_eq : FuncData
  f_first_wrong_wire : Addr
  d_first_wrong_wire : FuncData
  f_ways_from : Addr
  d_ways_from : FuncData
  f_Record_init : Addr
  d_Record_init : FuncData
  f_Record_eq : Addr
  d_Record_eq : FuncData
  f_check_record : Addr
  d_check_record : FuncData
  f_is_diary : Addr
  d_is_diary : FuncData
  f_check_machines : Addr
  d_check_machines : FuncData
  f_check_put : Addr
  d_check_put : FuncData
  f_places_in : Addr
  d_places_in : FuncData
  f_grown_over : Addr
  d_grown_over : FuncData
  f_wires_by_put : Addr
  d_wires_by_put : FuncData
  f_holders_by_put : Addr
  d_holders_by_put : FuncData
  f_growing : Addr
  d_growing : FuncData
  f_bar : Addr
  d_bar : FuncData
  f_is_bar : Addr
  d_is_bar : FuncData
  f_is_made : Addr
  d_is_made : FuncData
  f_trees : Addr
  d_trees : FuncData
  f_is_trees : Addr
  d_is_trees : FuncData
  f_is_tree : Addr
  d_is_tree : FuncData
  f__law_hand : Addr
  d__law_hand : FuncData
  f__law_draw : Addr
  d__law_draw : FuncData
  f__law_flag : Addr
  d__law_flag : FuncData
  f__law_deep : Addr
  d__law_deep : FuncData
  f__law_web : Addr
  d__law_web : FuncData
  f__law_ran : Addr
  d__law_ran : FuncData
  f__law_bent : Addr
  d__law_bent : FuncData
  f__law_parts : Addr
  d__law_parts : FuncData
  f__law_grow : Addr
  d__law_grow : FuncData
  f__law_is_whole : Addr
  d__law_is_whole : FuncData
  f__law_is_tree : Addr
  d__law_is_tree : FuncData
  f__law_bars : Addr
  d__law_bars : FuncData
  f__law_odd : Addr
  d__law_odd : FuncData
  f__law_drawn_trees : Addr
  d__law_drawn_trees : FuncData
  f__law_bent_trees : Addr
  d__law_bent_trees : FuncData
  f__law_drawn_bar : Addr
  d__law_drawn_bar : FuncData
  f_law : Addr
  d_law : FuncData
  c_Web : Addr
  c_Record : Addr
  t_MOST_MACHINES : Tok
  t_MOST_PUTS : Tok
structure Txt (K : PySem.W.Frag) (mg : Str → Option Value) (a : Ads) : Prop where
  F_is_integer : Fun K "is_integer" "is_integer" s_is_integer a.f_is_integer a.d_is_integer
  b_is_integer : Binds K a.d_is_integer P_is_integer []
  m_is_integer : mg "is_integer" = some (.ref a.f_is_integer)
  F_is_between : Fun K "is_between" "is_between" s_is_between a.f_is_between a.d_is_between
  b_is_between : Binds K a.d_is_between P_is_between []
  m_is_between : mg "is_between" = some (.ref a.f_is_between)
  F_is_below : Fun K "is_below" "is_below" s_is_below a.f_is_below a.d_is_below
  b_is_below : Binds K a.d_is_below P_is_below []
  m_is_below : mg "is_below" = some (.ref a.f_is_below)
  F_is_tuple_of : Fun K "is_tuple_of" "is_tuple_of" s_is_tuple_of a.f_is_tuple_of a.d_is_tuple_of
  b_is_tuple_of : Binds K a.d_is_tuple_of P_is_tuple_of []
  m_is_tuple_of : mg "is_tuple_of" = some (.ref a.f_is_tuple_of)
  F_are_below : Fun K "are_below" "are_below" s_are_below a.f_are_below a.d_are_below
  b_are_below : Binds K a.d_are_below P_are_below []
  m_are_below : mg "are_below" = some (.ref a.f_are_below)
  F_is_unlike_pair : Fun K "is_unlike_pair" "is_unlike_pair" s_is_unlike_pair a.f_is_unlike_pair a.d_is_unlike_pair
  b_is_unlike_pair : Binds K a.d_is_unlike_pair P_is_unlike_pair []
  m_is_unlike_pair : mg "is_unlike_pair" = some (.ref a.f_is_unlike_pair)
  F_are_ascending : Fun K "are_ascending" "are_ascending" s_are_ascending a.f_are_ascending a.d_are_ascending
  b_are_ascending : Binds K a.d_are_ascending P_are_ascending []
  m_are_ascending : mg "are_ascending" = some (.ref a.f_are_ascending)
  F_is_lot : Fun K "is_lot" "is_lot" s_is_lot a.f_is_lot a.d_is_lot
  b_is_lot : Binds K a.d_is_lot P_is_lot []
  m_is_lot : mg "is_lot" = some (.ref a.f_is_lot)
  F_Web_init : Fun K "__init__" "Web.__init__" s_Web_init a.f_Web_init a.d_Web_init
  b_Web_init : Binds K a.d_Web_init P_Web_init []
  F_Web_eq : Fun K "__eq__" "Web.__eq__" s_Web_eq a.f_Web_eq a.d_Web_eq
  b_Web_eq : Binds K a.d_Web_eq P_Web_eq []
  F_first_wrong_wire : Fun K "first_wrong_wire" "first_wrong_wire" s_first_wrong_wire a.f_first_wrong_wire a.d_first_wrong_wire
  b_first_wrong_wire : Binds K a.d_first_wrong_wire P_first_wrong_wire []
  m_first_wrong_wire : mg "first_wrong_wire" = some (.ref a.f_first_wrong_wire)
  F_ways_from : Fun K "ways_from" "ways_from" s_ways_from a.f_ways_from a.d_ways_from
  b_ways_from : Binds K a.d_ways_from P_ways_from []
  m_ways_from : mg "ways_from" = some (.ref a.f_ways_from)
  F_Record_init : Fun K "__init__" "Record.__init__" s_Record_init a.f_Record_init a.d_Record_init
  b_Record_init : Binds K a.d_Record_init P_Record_init []
  F_Record_eq : Fun K "__eq__" "Record.__eq__" s_Record_eq a.f_Record_eq a.d_Record_eq
  b_Record_eq : Binds K a.d_Record_eq P_Record_eq []
  F_check_record : Fun K "check_record" "check_record" s_check_record a.f_check_record a.d_check_record
  b_check_record : Binds K a.d_check_record P_check_record []
  m_check_record : mg "check_record" = some (.ref a.f_check_record)
  F_is_diary : Fun K "is_diary" "is_diary" s_is_diary a.f_is_diary a.d_is_diary
  b_is_diary : Binds K a.d_is_diary P_is_diary []
  m_is_diary : mg "is_diary" = some (.ref a.f_is_diary)
  F_check_machines : Fun K "check_machines" "check_machines" s_check_machines a.f_check_machines a.d_check_machines
  b_check_machines : Binds K a.d_check_machines P_check_machines []
  m_check_machines : mg "check_machines" = some (.ref a.f_check_machines)
  F_check_put : Fun K "check_put" "check_put" s_check_put a.f_check_put a.d_check_put
  b_check_put : Binds K a.d_check_put P_check_put []
  m_check_put : mg "check_put" = some (.ref a.f_check_put)
  F_places_in : Fun K "places_in" "places_in" s_places_in a.f_places_in a.d_places_in
  b_places_in : Binds K a.d_places_in P_places_in []
  m_places_in : mg "places_in" = some (.ref a.f_places_in)
  F_grown_over : Fun K "grown_over" "grown_over" s_grown_over a.f_grown_over a.d_grown_over
  b_grown_over : Binds K a.d_grown_over P_grown_over []
  m_grown_over : mg "grown_over" = some (.ref a.f_grown_over)
  F_wires_by_put : Fun K "wires_by_put" "wires_by_put" s_wires_by_put a.f_wires_by_put a.d_wires_by_put
  b_wires_by_put : Binds K a.d_wires_by_put P_wires_by_put []
  m_wires_by_put : mg "wires_by_put" = some (.ref a.f_wires_by_put)
  F_holders_by_put : Fun K "holders_by_put" "holders_by_put" s_holders_by_put a.f_holders_by_put a.d_holders_by_put
  b_holders_by_put : Binds K a.d_holders_by_put P_holders_by_put []
  m_holders_by_put : mg "holders_by_put" = some (.ref a.f_holders_by_put)
  F_growing : Fun K "growing" "growing" s_growing a.f_growing a.d_growing
  b_growing : Binds K a.d_growing P_growing []
  m_growing : mg "growing" = some (.ref a.f_growing)
  F_bar : Fun K "bar" "bar" s_bar a.f_bar a.d_bar
  b_bar : Binds K a.d_bar P_bar []
  m_bar : mg "bar" = some (.ref a.f_bar)
  F_is_bar : Fun K "is_bar" "is_bar" s_is_bar a.f_is_bar a.d_is_bar
  b_is_bar : Binds K a.d_is_bar P_is_bar []
  m_is_bar : mg "is_bar" = some (.ref a.f_is_bar)
  F_is_made : Fun K "is_made" "is_made" s_is_made a.f_is_made a.d_is_made
  b_is_made : Binds K a.d_is_made P_is_made []
  m_is_made : mg "is_made" = some (.ref a.f_is_made)
  F_trees : Fun K "trees" "trees" s_trees a.f_trees a.d_trees
  b_trees : Binds K a.d_trees P_trees []
  m_trees : mg "trees" = some (.ref a.f_trees)
  F_is_trees : Fun K "is_trees" "is_trees" s_is_trees a.f_is_trees a.d_is_trees
  b_is_trees : Binds K a.d_is_trees P_is_trees []
  m_is_trees : mg "is_trees" = some (.ref a.f_is_trees)
  F_is_tree : Fun K "is_tree" "is_tree" s_is_tree a.f_is_tree a.d_is_tree
  b_is_tree : Binds K a.d_is_tree P_is_tree []
  m_is_tree : mg "is_tree" = some (.ref a.f_is_tree)
  F__law_hand : Fun K "_law_hand" "_law_hand" s__law_hand a.f__law_hand a.d__law_hand
  b__law_hand : Binds K a.d__law_hand P__law_hand []
  m__law_hand : mg "_law_hand" = some (.ref a.f__law_hand)
  F__law_draw : Fun K "_law_draw" "_law_draw" s__law_draw a.f__law_draw a.d__law_draw
  b__law_draw : Binds K a.d__law_draw P__law_draw []
  m__law_draw : mg "_law_draw" = some (.ref a.f__law_draw)
  F__law_flag : Fun K "_law_flag" "_law_flag" s__law_flag a.f__law_flag a.d__law_flag
  b__law_flag : Binds K a.d__law_flag P__law_flag []
  m__law_flag : mg "_law_flag" = some (.ref a.f__law_flag)
  F__law_deep : Fun K "_law_deep" "_law_deep" s__law_deep a.f__law_deep a.d__law_deep
  b__law_deep : Binds K a.d__law_deep P__law_deep []
  m__law_deep : mg "_law_deep" = some (.ref a.f__law_deep)
  F__law_web : Fun K "_law_web" "_law_web" s__law_web a.f__law_web a.d__law_web
  b__law_web : Binds K a.d__law_web P__law_web []
  m__law_web : mg "_law_web" = some (.ref a.f__law_web)
  F__law_ran : Fun K "_law_ran" "_law_ran" s__law_ran a.f__law_ran a.d__law_ran
  b__law_ran : Binds K a.d__law_ran P__law_ran []
  m__law_ran : mg "_law_ran" = some (.ref a.f__law_ran)
  F__law_bent : Fun K "_law_bent" "_law_bent" s__law_bent a.f__law_bent a.d__law_bent
  b__law_bent : Binds K a.d__law_bent P__law_bent []
  m__law_bent : mg "_law_bent" = some (.ref a.f__law_bent)
  F__law_parts : Fun K "_law_parts" "_law_parts" s__law_parts a.f__law_parts a.d__law_parts
  b__law_parts : Binds K a.d__law_parts P__law_parts []
  m__law_parts : mg "_law_parts" = some (.ref a.f__law_parts)
  F__law_grow : Fun K "_law_grow" "_law_grow" s__law_grow a.f__law_grow a.d__law_grow
  b__law_grow : Binds K a.d__law_grow P__law_grow []
  m__law_grow : mg "_law_grow" = some (.ref a.f__law_grow)
  F__law_is_whole : Fun K "_law_is_whole" "_law_is_whole" s__law_is_whole a.f__law_is_whole a.d__law_is_whole
  b__law_is_whole : Binds K a.d__law_is_whole P__law_is_whole []
  m__law_is_whole : mg "_law_is_whole" = some (.ref a.f__law_is_whole)
  F__law_is_tree : Fun K "_law_is_tree" "_law_is_tree" s__law_is_tree a.f__law_is_tree a.d__law_is_tree
  b__law_is_tree : Binds K a.d__law_is_tree P__law_is_tree []
  m__law_is_tree : mg "_law_is_tree" = some (.ref a.f__law_is_tree)
  F__law_bars : Fun K "_law_bars" "_law_bars" s__law_bars a.f__law_bars a.d__law_bars
  b__law_bars : Binds K a.d__law_bars P__law_bars []
  m__law_bars : mg "_law_bars" = some (.ref a.f__law_bars)
  F__law_odd : Fun K "_law_odd" "_law_odd" s__law_odd a.f__law_odd a.d__law_odd
  b__law_odd : Binds K a.d__law_odd P__law_odd []
  m__law_odd : mg "_law_odd" = some (.ref a.f__law_odd)
  F__law_drawn_trees : Fun K "_law_drawn_trees" "_law_drawn_trees" s__law_drawn_trees a.f__law_drawn_trees a.d__law_drawn_trees
  b__law_drawn_trees : Binds K a.d__law_drawn_trees P__law_drawn_trees []
  m__law_drawn_trees : mg "_law_drawn_trees" = some (.ref a.f__law_drawn_trees)
  F__law_bent_trees : Fun K "_law_bent_trees" "_law_bent_trees" s__law_bent_trees a.f__law_bent_trees a.d__law_bent_trees
  b__law_bent_trees : Binds K a.d__law_bent_trees P__law_bent_trees []
  m__law_bent_trees : mg "_law_bent_trees" = some (.ref a.f__law_bent_trees)
  F__law_drawn_bar : Fun K "_law_drawn_bar" "_law_drawn_bar" s__law_drawn_bar a.f__law_drawn_bar a.d__law_drawn_bar
  b__law_drawn_bar : Binds K a.d__law_drawn_bar P__law_drawn_bar []
  m__law_drawn_bar : mg "_law_drawn_bar" = some (.ref a.f__law_drawn_bar)
  F_law : Fun K "law" "law" s_law a.f_law a.d_law
  b_law : Binds K a.d_law P_law []
  m_law : mg "law" = some (.ref a.f_law)
  m_Web : mg "Web" = some (.ref a.c_Web)
  m_Record : mg "Record" = some (.ref a.c_Record)
  cl_Web : Cls K a.c_Web
  K_Web : Mk K a.c_Web a.f_Web_init
  ic_Web : C8.InsC K a.c_Web
  eqf_Web : PySem.W.findIn K (.ref a.c_Web) "__eq__" = some (some (.ref a.f_Web_eq))
  eqi_Web : PySem.W.isFn K (.ref a.f_Web_eq) = true
  ne_Web : PySem.W.findIn K (.ref a.c_Web) "__ne__" = some (some (.builtin "object.__ne__"))
  wi_Web : PySem.W.mroIn K a.c_Web (.type "int") = some false
  wb_Web : PySem.W.mroIn K a.c_Web (.type "bool") = some false
  wt_Web : PySem.W.mroIn K a.c_Web (.type "tuple") = some false
  ws_Web : PySem.W.mroIn K a.c_Web (.type "str") = some false
  na_Web_machines : NoAttr K a.c_Web "machines"
  na_Web_wires : NoAttr K a.c_Web "wires"
  cl_Record : Cls K a.c_Record
  K_Record : Mk K a.c_Record a.f_Record_init
  ic_Record : C8.InsC K a.c_Record
  eqf_Record : PySem.W.findIn K (.ref a.c_Record) "__eq__" = some (some (.ref a.f_Record_eq))
  eqi_Record : PySem.W.isFn K (.ref a.f_Record_eq) = true
  ne_Record : PySem.W.findIn K (.ref a.c_Record) "__ne__" = some (some (.builtin "object.__ne__"))
  wi_Record : PySem.W.mroIn K a.c_Record (.type "int") = some false
  wb_Record : PySem.W.mroIn K a.c_Record (.type "bool") = some false
  wt_Record : PySem.W.mroIn K a.c_Record (.type "tuple") = some false
  ws_Record : PySem.W.mroIn K a.c_Record (.type "str") = some false
  na_Record_writers : NoAttr K a.c_Record "writers"
  na_Record_diaries : NoAttr K a.c_Record "diaries"
  m_MOST_MACHINES : mg "MOST_MACHINES" = some (.int 7 a.t_MOST_MACHINES)
  m_MOST_PUTS : mg "MOST_PUTS" = some (.int 30 a.t_MOST_PUTS)
  n_isinstance : mg "isinstance" = none
  n_int : mg "int" = none
  n_bool : mg "bool" = none
  n_tuple : mg "tuple" = none
  n_len : mg "len" = none
  n_all : mg "all" = none
  n_zip : mg "zip" = none
  n_enumerate : mg "enumerate" = none
  n_set : mg "set" = none
  n_any : mg "any" = none
  n_range : mg "range" = none
  n_abs : mg "abs" = none
  n_min : mg "min" = none
  n_dict : mg "dict" = none
  n_list : mg "list" = none
  n_max : mg "max" = none
  n_sorted : mg "sorted" = none
end Mine
/-! ## K1 -/
section
open PySem L2 GA
local macro_rules
  | `(tactic| walk_at "w") => `(tactic| first
    | ((with_reducible refine' GA.w_var ?e ?_); (case e => exact rfl))
    | (with_reducible refine' GA.w_c ?_)
    | (with_reducible refine' GA.w_cons ?_)
    | (with_reducible refine' GA.w_nil ?_)
    | (with_reducible refine' GA.w_op ?_)
    | (with_reducible refine' GA.r_I0 ?_)
    | (with_reducible refine' GA.w_bl ?_)
    | (with_reducible refine' GA.w_seq ?_)
    | (with_reducible refine' GA.w_set ?_)
    | (with_reducible refine' GA.w_ret ?_)
    | (with_reducible refine' GA.w_ifS ?_)
    | (with_reducible refine' GA.w_test ?_)
    | (with_reducible refine' GA.w_tB ?_)
    | (with_reducible refine' GA.w_not ?_)
    | (with_reducible refine' GA.w_and ?_)
    | (with_reducible refine' GA.w_or ?_)
    | (with_reducible refine' GA.w_andV ?_)
    | (with_reducible refine' GA.w_orV ?_)
    | (with_reducible refine' GA.w_notV ?_)
    | (with_reducible refine' GA.w_blc ?_)
    | (with_reducible refine' GA.w_if ?_)
    | (with_reducible refine' GA.w_CB ?_)
    | (with_reducible refine' GA.w_call ?_)
    | (with_reducible refine' GA.w_tupN ?_)
    | (with_reducible refine' GA.w_lstN ?_)
    | (with_reducible refine' GA.w_chain ?_)
    | (with_reducible refine' GA.w_drop ?_)
    | (with_reducible refine' GA.w_next ?_)
    | (with_reducible refine' GA.w_break ?_)
    | (with_reducible refine' GA.w_un ?_)
    | (with_reducible refine' GA.r_U ?_)
    | (with_reducible refine' GA.r_eqI ?_)
    | (with_reducible refine' GA.r_neI ?_)
    | (with_reducible refine' GA.r_eqB ?_)
    | (with_reducible refine' GA.r_neB ?_)
    | (with_reducible refine' GA.w_fld ?_)
    | (with_reducible refine' GA.w_sfld ?_)
    | (with_reducible refine' GA.w_sl ?_)
    | (with_reducible refine' GA.w_part ?_)
    | (with_reducible refine' GA.w_noPart ?_)
    | (with_reducible refine' GA.w_inti ?_)
    | (with_reducible refine' GA.w_retN ?_)
    | (with_reducible refine' GA.w_gsub ?_)
    | (with_reducible refine' GA.w_gname ?_)
    | (with_reducible refine' L2.iteT ?_)
    | (with_reducible refine' L2.iteF ?_)
    | (with_reducible refine' GA.w_nt ?_)
    | (with_reducible refine' GA.w_nf ?_)
    | (with_reducible refine' GA.w_isN ?_)
    | (with_reducible refine' GA.w_notN ?_)
    | (with_reducible refine' GA.w_yes ?_)
    | (with_reducible refine' GA.w_lc ?_)
    | (with_reducible refine' GA.w_lc2 ?_)
    | (with_reducible refine' GA.w_iseq ?_)
    | (with_reducible refine' GA.w_make ?_)
    | (with_reducible refine' GA.w_for ?_)
    | (with_reducible refine' GA.w_rng1 ?_)
    | (with_reducible refine' GA.w_rng2 ?_)
    | (with_reducible refine' GA.w_itup ?_)
    | (with_reducible refine' GA.w_ilist ?_)
    | (with_reducible refine' GA.w_ienum ?_)
    | (with_reducible refine' GA.w_BM ?_)
    | (with_reducible refine' GA.w_BM0 ?_)
    | (with_reducible refine' GA.w_izip ?_)
    | (with_reducible refine' GA.w_asg ?_))
  | `(tactic| walk_at "wm") => `(tactic| first
    | ((with_reducible refine' GA.w_var ?e ?_); (case e => exact rfl))
    | (with_reducible refine' GA.w_c ?_)
    | (with_reducible refine' GA.w_cons ?_)
    | (with_reducible refine' GA.w_nil ?_)
    | (with_reducible refine' GA.w_op ?_)
    | (with_reducible refine' GA.r_I0 ?_)
    | (with_reducible refine' GA.w_bl ?_)
    | (with_reducible refine' GA.w_set ?_)
    | (with_reducible refine' GA.w_ret ?_)
    | (with_reducible refine' GA.w_ifS ?_)
    | (with_reducible refine' GA.w_test ?_)
    | (with_reducible refine' GA.w_tB ?_)
    | (with_reducible refine' GA.w_not ?_)
    | (with_reducible refine' GA.w_and ?_)
    | (with_reducible refine' GA.w_or ?_)
    | (with_reducible refine' GA.w_andV ?_)
    | (with_reducible refine' GA.w_orV ?_)
    | (with_reducible refine' GA.w_notV ?_)
    | (with_reducible refine' GA.w_blc ?_)
    | (with_reducible refine' GA.w_if ?_)
    | (with_reducible refine' GA.w_CB ?_)
    | (with_reducible refine' GA.w_call ?_)
    | (with_reducible refine' GA.w_tupN ?_)
    | (with_reducible refine' GA.w_lstN ?_)
    | (with_reducible refine' GA.w_chain ?_)
    | (with_reducible refine' GA.w_drop ?_)
    | (with_reducible refine' GA.w_next ?_)
    | (with_reducible refine' GA.w_break ?_)
    | (with_reducible refine' GA.w_un ?_)
    | (with_reducible refine' GA.r_U ?_)
    | (with_reducible refine' GA.r_eqI ?_)
    | (with_reducible refine' GA.r_neI ?_)
    | (with_reducible refine' GA.r_eqB ?_)
    | (with_reducible refine' GA.r_neB ?_)
    | (with_reducible refine' GA.w_fld ?_)
    | (with_reducible refine' GA.w_sfld ?_)
    | (with_reducible refine' GA.w_sl ?_)
    | (with_reducible refine' GA.w_part ?_)
    | (with_reducible refine' GA.w_noPart ?_)
    | (with_reducible refine' GA.w_inti ?_)
    | (with_reducible refine' GA.w_retN ?_)
    | (with_reducible refine' GA.w_gsub ?_)
    | (with_reducible refine' GA.w_gname ?_)
    | (with_reducible refine' L2.iteT ?_)
    | (with_reducible refine' L2.iteF ?_)
    | (with_reducible refine' GA.w_nt ?_)
    | (with_reducible refine' GA.w_nf ?_)
    | (with_reducible refine' GA.w_isN ?_)
    | (with_reducible refine' GA.w_notN ?_)
    | (with_reducible refine' GA.w_yes ?_)
    | (with_reducible refine' GA.w_lc ?_)
    | (with_reducible refine' GA.w_lc2 ?_)
    | (with_reducible refine' GA.w_iseq ?_)
    | (with_reducible refine' GA.w_make ?_)
    | (with_reducible refine' GA.w_for ?_)
    | (with_reducible refine' GA.w_rng1 ?_)
    | (with_reducible refine' GA.w_rng2 ?_)
    | (with_reducible refine' GA.w_itup ?_)
    | (with_reducible refine' GA.w_ilist ?_)
    | (with_reducible refine' GA.w_ienum ?_)
    | (with_reducible refine' GA.w_BM ?_)
    | (with_reducible refine' GA.w_BM0 ?_)
    | (with_reducible refine' GA.w_izip ?_)
    | (with_reducible refine' GA.w_asg ?_))
  | `(tactic| walk_at "ws") => `(tactic| repeat (walk_at "w"))
  | `(tactic| walk_at "wn") => `(tactic| repeat (walk_at "wm"))


namespace Mine
section
variable {P : Program} {w : World} {K : PySem.W.Frag} {mg : Str → Option Value} {base : Heap} {a : Ads}

theorem tyx_tup {H : Hp} {p : Addr} {xs : List V} (h : SqT K H p xs) : TyX K H (.ref p) (.type "tuple") := by
  rcases h with (h | ⟨o, h⟩) | ⟨o, its, n, h1, h2, _⟩
  · exact .base (.tup h)
  · exact .fTuple h
  · exact .kTuple h1 h2
theorem r_isi {x : V} {t : Value} {n : String} {b : Bool} {H : Hp} {Q : VK} (ty : TyX K H x t) (e : PySem.W.kitOne K t (.type n) = some b) (q : Q (.bl b) H) : rIsi K [x, .ty n] H Q := ⟨x, .ty n, t, .type n, b, rfl, .ty n, ty, e, q⟩
theorem ki_ii : PySem.W.kitOne K (.type "int") (.type "int") = some true := kit_ty (by decide +kernel)
theorem ki_ib : PySem.W.kitOne K (.type "int") (.type "bool") = some false := kit_ty (by decide +kernel)
theorem ki_bb : PySem.W.kitOne K (.type "bool") (.type "bool") = some true := kit_ty (by decide +kernel)
theorem ki_tt : PySem.W.kitOne K (.type "tuple") (.type "tuple") = some true := kit_ty (by decide +kernel)
theorem ki_tb : PySem.W.kitOne K (.type "tuple") (.type "bool") = some false := kit_ty (by decide +kernel)
theorem ki_it : PySem.W.kitOne K (.type "int") (.type "tuple") = some false := kit_ty (by decide +kernel)
theorem ty_int {H : Hp} {i : Int} : TyX K H (.int i) (.type "int") := .base (.int i)
theorem ty_bl {H : Hp} {i : Bool} : TyX K H (.bl i) (.type "bool") := .base (.bl i)
def sp_is_integer : Sp := fun vs H Q _ => ∃ i : Int, vs = [.int i] ∧ Q (.bl true) H
theorem ok_is_integer (T : Txt K mg a) : FnOk P w K mg base CX0 1 a.f_is_integer a.d_is_integer P_is_integer sp_is_integer := by
  refine T.F_is_integer.ok sc_is_integer (fun vs H Q E h => by obtain ⟨i, rfl, _⟩ := h; rfl) (fun cdv A outer s H vs Q E hr h => ?_)
  obtain ⟨i, rfl, k⟩ := h
  refine ⟨_, (pss_one (ps_ret (pe_and (pe_callB call_isi (by rfl) T.n_isinstance (by decide +kernel) (pa_cons (pv 0) (pa_cons (pe_bltn (v := .ty "int") (u := .type "int") rfl T.n_int (by decide +kernel) rfl) pa_nil))) (pe_one (pe_not (pe_callB call_isi (by rfl) T.n_isinstance (by decide +kernel) (pa_cons (pv 0) (pa_cons (pe_bltn (v := .ty "bool") (u := .type "bool") rfl T.n_bool (by decide +kernel) rfl) pa_nil)))))))), ?_⟩
  walk_at "ws"
  refine r_isi ty_int ki_ii ?_
  walk_at "ws"
  refine r_isi ty_int ki_ib ?_
  walk_at "ws"
  exact k

def sp_is_between : Sp := fun vs H Q _ => ∃ lo hi i : Int, vs = [.int lo, .int hi, .int i] ∧ Q (.bl (decide (lo ≤ i) && decide (i ≤ hi))) H
theorem ok_is_between (T : Txt K mg a) : FnOk P w K mg base CX0 2 a.f_is_between a.d_is_between P_is_between sp_is_between := by
  refine T.F_is_between.ok sc_is_between (fun vs H Q E h => by obtain ⟨lo, hi, i, rfl, _⟩ := h; rfl) (fun cdv A outer s H vs Q E hr h => ?_)
  obtain ⟨lo, hi, i, rfl, k⟩ := h
  have G_is_integer : FnOk P w K mg base CX0 1 a.f_is_integer a.d_is_integer P_is_integer sp_is_integer := ok_is_integer T
  refine ⟨_, (pss_one (ps_ret (pe_and (pe_call (G_is_integer) (hr.mono (by omega)) rfl T.m_is_integer T.F_is_integer.kp T.b_is_integer .nil pass0 (pa_cons (pv 2) pa_nil)) (pe_one (pe_chain op_le op_le (pv 0) (pv 2) (pv 1)))))), ?_⟩
  walk_at "ws"
  refine ⟨_, rfl, ?_⟩
  walk_at "ws"
  refine w_ite (fun e => ?_) (fun e => ?_)
  · walk_at "ws"
    rw [e] at k
    exact k
  · rw [e] at k
    exact k

def sp_is_below : Sp := fun vs H Q _ => ∃ b i : Int, vs = [.int b, .int i] ∧ Q (.bl (decide (0 ≤ i) && decide (i < b))) H
theorem ok_is_below (T : Txt K mg a) : FnOk P w K mg base CX0 3 a.f_is_below a.d_is_below P_is_below sp_is_below := by
  refine T.F_is_below.ok sc_is_below (fun vs H Q E h => by obtain ⟨b, i, rfl, _⟩ := h; rfl) (fun cdv A outer s H vs Q E hr h => ?_)
  obtain ⟨b, i, rfl, k⟩ := h
  have G_is_between : FnOk P w K mg base CX0 2 a.f_is_between a.d_is_between P_is_between sp_is_between := ok_is_between T
  refine ⟨_, (pss_one (ps_ret (pe_call (G_is_between) (hr.mono (by omega)) rfl T.m_is_between T.F_is_between.kp T.b_is_between .nil pass0 (pa_cons pe_int (pa_cons (pe_op op_sub (pv 0) pe_int) (pa_cons (pv 1) pa_nil)))))), ?_⟩
  walk_at "ws"
  refine ⟨_, _, _, rfl, ?_⟩
  have e : decide (i ≤ b - 1) = decide (i < b) := by simp only [decide_eq_decide]; omega
  rw [e]
  exact k

def sp_is_tuple_of (K : PySem.W.Frag) : Sp := fun vs H Q _ => ∃ (lo hi : Int) (p : Addr) (xs : List V), vs = [.int lo, .int hi, .ref p] ∧ SqT K H p xs ∧ Q (.bl (decide (lo ≤ xs.length) && decide ((xs.length : Int) ≤ hi))) H
theorem ok_is_tuple_of (T : Txt K mg a) : FnOk P w K mg base CX0 1 a.f_is_tuple_of a.d_is_tuple_of P_is_tuple_of (sp_is_tuple_of K) := by
  refine T.F_is_tuple_of.ok sc_is_tuple_of (fun vs H Q E h => by obtain ⟨lo, hi, p, xs, rfl, _⟩ := h; rfl) (fun cdv A outer s H vs Q E hr h => ?_)
  obtain ⟨lo, hi, p, xs, rfl, hx, k⟩ := h
  refine ⟨_, (pss_one (ps_ret (pe_and (pe_callB call_isi (by rfl) T.n_isinstance (by decide +kernel) (pa_cons (pv 2) (pa_cons (pe_bltn (v := .ty "tuple") (u := .type "tuple") rfl T.n_tuple (by decide +kernel) rfl) pa_nil))) (pe_one (pe_chain op_le op_le (pv 0) (pe_callB call_len_seq (by rfl) T.n_len (by decide +kernel) (pa_cons (pv 2) pa_nil)) (pv 1)))))), ?_⟩
  walk_at "ws"
  refine r_isi (tyx_tup hx) ki_tt ?_
  walk_at "ws"
  refine ⟨_, _, rfl, .inr hx, ?_⟩
  walk_at "ws"
  refine w_ite (fun e => ?_) (fun e => ?_)
  · walk_at "ws"
    rw [e] at k
    exact k
  · rw [e] at k
    exact k

end
end Mine
/-! ## KX -/


namespace Mine
section
variable {P : Program} {w : World} {K : PySem.W.Frag} {mg : Str → Option Value} {base : Heap} {a : Ads}

/-! ### the classes of the things that are drawn -/
def Cs (a : Ads) : Addr → Prop := fun c => c = a.c_Web ∨ c = a.c_Record
theorem ikT (T : Txt K mg a) : InsK K (Cs a) where
  ic := by rintro c (rfl | rfl); exact T.ic_Web; exact T.ic_Record
  int := by rintro c (rfl | rfl); exact kit_mro T.wi_Web (by decide +kernel); exact kit_mro T.wi_Record (by decide +kernel)
  bool := by rintro c (rfl | rfl); exact kit_mro T.wb_Web (by decide +kernel); exact kit_mro T.wb_Record (by decide +kernel)
  tuple := by rintro c (rfl | rfl); exact kit_mro T.wt_Web (by decide +kernel); exact kit_mro T.wt_Record (by decide +kernel)
  str := by rintro c (rfl | rfl); exact kit_mro T.ws_Web (by decide +kernel); exact kit_mro T.ws_Record (by decide +kernel)
/-! ### any thing, judged -/
def isI : Tg → Bool
  | .int _ => true
  | _ => false
def btw (lo hi : Int) : Tg → Bool
  | .int i => decide (lo ≤ i) && decide (i ≤ hi)
  | _ => false
def blw (b : Int) : Tg → Bool
  | .int i => decide (0 ≤ i) && decide (i < b)
  | _ => false
def tsz (lo hi : Int) : Tg → Bool
  | .tup ts => decide (lo ≤ ts.length) && decide ((ts.length : Int) ≤ hi)
  | _ => false
def pr (b : Int) : Tg → Bool
  | .tup [.int x, .int y] => (blw b (.int x) && blw b (.int y)) && !decide (x = y)
  | _ => false
theorem isI_t {t : Tg} (e : isT "int" t = true) : isI t = !isT "bool" t := by
  cases t <;> first | rfl | exact Bool.noConfusion (show false = true from e)
theorem isI_f {t : Tg} (e : isT "int" t = false) : isI t = false := by
  cases t <;> first | rfl | exact Bool.noConfusion (show true = false from e)
theorem isI_int {C : Addr → Prop} {hd : Addr} {H : Hp} {v : V} {t : Tg} (h : Ab C hd H v t) (e : isI t = true) : ∃ i, t = .int i ∧ v = .int i := by
  cases h <;> first | exact ⟨_, rfl, rfl⟩ | exact Bool.noConfusion (show false = true from e)
theorem btw_f {lo hi : Int} {t : Tg} (e : isI t = false) : btw lo hi t = false := by
  cases t <;> first | rfl | exact Bool.noConfusion (show true = false from e)
def sa_is_integer (C : Addr → Prop) : Sp := fun vs H Q _ => ∃ (hd : Addr) (v : V) (t : Tg), vs = [v] ∧ Ab C hd H v t ∧ Q (.bl (isI t)) H
theorem oka_is_integer (T : Txt K mg a) : FnOk P w K mg base CX0 1 a.f_is_integer a.d_is_integer P_is_integer (sa_is_integer (Cs a)) := by
  refine T.F_is_integer.ok sc_is_integer (fun vs H Q E h => by obtain ⟨hd, v, t, rfl, _⟩ := h; rfl) (fun cdv A outer s H vs Q E hr h => ?_)
  obtain ⟨hd, v, t, rfl, ha, k⟩ := h
  refine ⟨_, (pss_one (ps_ret (pe_and (pe_callB call_isi (by rfl) T.n_isinstance (by decide +kernel) (pa_cons (pv 0) (pa_cons (pe_bltn (v := .ty "int") (u := .type "int") rfl T.n_int (by decide +kernel) rfl) pa_nil))) (pe_one (pe_not (pe_callB call_isi (by rfl) T.n_isinstance (by decide +kernel) (pa_cons (pv 0) (pa_cons (pe_bltn (v := .ty "bool") (u := .type "bool") rfl T.n_bool (by decide +kernel) rfl) pa_nil)))))))), ?_⟩
  walk_at "ws"
  refine ab_isi (ikT T) ha (.inl rfl) ?_
  walk_at "ws"
  refine w_ite (fun e => ?_) (fun e => ?_)
  · walk_at "ws"
    refine ab_isi (ikT T) ha (.inr (.inl rfl)) ?_
    walk_at "ws"
    rw [isI_t e] at k
    exact k
  · rw [isI_f e] at k
    exact k

def sa_is_between (C : Addr → Prop) : Sp := fun vs H Q _ => ∃ (lo hi : Int) (hd : Addr) (v : V) (t : Tg), vs = [.int lo, .int hi, v] ∧ Ab C hd H v t ∧ Q (.bl (btw lo hi t)) H
theorem oka_is_between (T : Txt K mg a) : FnOk P w K mg base CX0 2 a.f_is_between a.d_is_between P_is_between (sa_is_between (Cs a)) := by
  refine T.F_is_between.ok sc_is_between (fun vs H Q E h => by obtain ⟨lo, hi, hd, v, t, rfl, _⟩ := h; rfl) (fun cdv A outer s H vs Q E hr h => ?_)
  obtain ⟨lo, hi, hd, v, t, rfl, ha, k⟩ := h
  have GA_is_integer : FnOk P w K mg base CX0 1 a.f_is_integer a.d_is_integer P_is_integer (sa_is_integer (Cs a)) := oka_is_integer T
  refine ⟨_, (pss_one (ps_ret (pe_and (pe_call (GA_is_integer) (hr.mono (by omega)) rfl T.m_is_integer T.F_is_integer.kp T.b_is_integer .nil pass0 (pa_cons (pv 2) pa_nil)) (pe_one (pe_chain op_le op_le (pv 0) (pv 2) (pv 1)))))), ?_⟩
  walk_at "ws"
  refine ⟨hd, v, t, rfl, ha, ?_⟩
  walk_at "ws"
  refine w_ite (fun e => ?_) (fun e => ?_)
  · obtain ⟨i, rfl, rfl⟩ := isI_int ha e
    have k : Q (.bl (decide (lo ≤ i) && decide (i ≤ hi))) H := k
    walk_at "ws"
    refine w_ite (fun e => ?_) (fun e => ?_)
    · walk_at "ws"
      rw [e] at k
      exact k
    · rw [e] at k
      exact k
  · rw [btw_f e] at k
    exact k

def sa_is_below (C : Addr → Prop) : Sp := fun vs H Q _ => ∃ (b : Int) (hd : Addr) (v : V) (t : Tg), vs = [.int b, v] ∧ Ab C hd H v t ∧ Q (.bl (blw b t)) H
theorem oka_is_below (T : Txt K mg a) : FnOk P w K mg base CX0 3 a.f_is_below a.d_is_below P_is_below (sa_is_below (Cs a)) := by
  refine T.F_is_below.ok sc_is_below (fun vs H Q E h => by obtain ⟨b, hd, v, t, rfl, _⟩ := h; rfl) (fun cdv A outer s H vs Q E hr h => ?_)
  obtain ⟨b, hd, v, t, rfl, ha, k⟩ := h
  have GA_is_between : FnOk P w K mg base CX0 2 a.f_is_between a.d_is_between P_is_between (sa_is_between (Cs a)) := oka_is_between T
  refine ⟨_, (pss_one (ps_ret (pe_call (GA_is_between) (hr.mono (by omega)) rfl T.m_is_between T.F_is_between.kp T.b_is_between .nil pass0 (pa_cons pe_int (pa_cons (pe_op op_sub (pv 0) pe_int) (pa_cons (pv 1) pa_nil)))))), ?_⟩
  walk_at "ws"
  refine ⟨_, _, hd, v, t, rfl, ha, ?_⟩
  have e : btw 0 (b - 1) t = blw b t := by
    cases t <;> first | rfl | (simp only [btw, blw]; congr 1; rw [decide_eq_decide]; omega)
  rw [e]
  exact k

theorem tup_of {C : Addr → Prop} {hd : Addr} {H : Hp} {v : V} {t : Tg} (h : Ab C hd H v t) (e : isT "tuple" t = true) : ∃ p xs ts, v = .ref p ∧ t = .tup ts ∧ Rd H p (.tup xs) ∧ AbAll C hd H xs ts := by
  cases h with
  | tup r al => exact ⟨_, _, _, rfl, rfl, r, al⟩
  | non => exact Bool.noConfusion (show false = true from e)
  | bl _ => exact Bool.noConfusion (show false = true from e)
  | int _ => exact Bool.noConfusion (show false = true from e)
  | str _ => exact Bool.noConfusion (show false = true from e)
  | oth _ _ => exact Bool.noConfusion (show false = true from e)
theorem tsz_f {lo hi : Int} {t : Tg} (e : isT "tuple" t = false) : tsz lo hi t = false := by
  cases t <;> first | rfl | exact Bool.noConfusion (show true = false from e)
def sa_is_tuple_of (C : Addr → Prop) : Sp := fun vs H Q _ => ∃ (lo hi : Int) (hd : Addr) (v : V) (t : Tg), vs = [.int lo, .int hi, v] ∧ Ab C hd H v t ∧ Q (.bl (tsz lo hi t)) H
theorem oka_is_tuple_of (T : Txt K mg a) : FnOk P w K mg base CX0 1 a.f_is_tuple_of a.d_is_tuple_of P_is_tuple_of (sa_is_tuple_of (Cs a)) := by
  refine T.F_is_tuple_of.ok sc_is_tuple_of (fun vs H Q E h => by obtain ⟨lo, hi, hd, v, t, rfl, _⟩ := h; rfl) (fun cdv A outer s H vs Q E hr h => ?_)
  obtain ⟨lo, hi, hd, v, t, rfl, ha, k⟩ := h
  refine ⟨_, (pss_one (ps_ret (pe_and (pe_callB call_isi (by rfl) T.n_isinstance (by decide +kernel) (pa_cons (pv 2) (pa_cons (pe_bltn (v := .ty "tuple") (u := .type "tuple") rfl T.n_tuple (by decide +kernel) rfl) pa_nil))) (pe_one (pe_chain op_le op_le (pv 0) (pe_callB call_len_seq (by rfl) T.n_len (by decide +kernel) (pa_cons (pv 2) pa_nil)) (pv 1)))))), ?_⟩
  walk_at "ws"
  refine ab_isi (ikT T) ha (.inr (.inr (.inr rfl))) ?_
  walk_at "ws"
  refine w_ite (fun e => ?_) (fun e => ?_)
  · obtain ⟨p, xs, ts, rfl, rfl, r, al⟩ := tup_of ha e
    have k : Q (.bl (decide (lo ≤ ts.length) && decide ((ts.length : Int) ≤ hi))) H := k
    walk_at "ws"
    refine ⟨p, xs, rfl, .inr (.inl r), ?_⟩
    rw [al.length]
    walk_at "ws"
    refine w_ite (fun e => ?_) (fun e => ?_)
    · walk_at "ws"
      rw [e] at k
      exact k
    · rw [e] at k
      exact k
  · rw [tsz_f e] at k
    exact k

/-! ### are_below, is_unlike_pair -/
theorem bools_tg {H : Hp} {f : Tg → Bool} : ∀ {ts : List Tg} {xs : List V}, DpAll K H xs (ts.map fun t => PyData.bool (f t)) → xs = (ts.map f).map V.bl
  | [], _, h => by cases h; rfl
  | t :: ts, _, h => by
    cases h with
    | cons h1 h2 => cases h1; rw [bools_tg h2]; rfl
def sa_are_below (C : Addr → Prop) : Sp := fun vs H Q _ => ∃ (b : Int) (p hd : Addr) (xs : List V) (ts : List Tg), vs = [.int b, .ref p] ∧ Rd H p (.tup xs) ∧ AbAll C hd H xs ts ∧ ts.length ≤ 100000 ∧ ∀ H', G none H H' → Q (.bl (ts.all (blw b))) H'
theorem oka_are_below (T : Txt K mg a) : FnOk P w K mg base CX0 4 a.f_are_below a.d_are_below P_are_below (sa_are_below (Cs a)) := by
  refine T.F_are_below.ok sc_are_below (fun vs H Q E h => by obtain ⟨b, p, hd, xs, ts, rfl, _⟩ := h; rfl) (fun cdv A outer s H vs Q E hr h => ?_)
  obtain ⟨b, p, hd, xs, ts, rfl, hx, al, hz, k⟩ := h
  have GA_is_below : FnOk P w K mg base CX0 3 a.f_is_below a.d_is_below P_is_below (sa_is_below (Cs a)) := oka_is_below T
  have hl := al.length
  refine ⟨_, (pss_one (ps_ret (pe_callB (cr_all rfl) (by rfl) T.n_all (by decide +kernel) (pa_cons (pe_lc (own := [("thing", 2)]) (g := (gName 2)) (tt := tYes) rfl sc_are_below.nd (pi_tup (pv 1)) (blkOk_by (N := N_are_below) (sc := defScope s_are_below) (by decide +kernel)) (fun _ _ _ _ _ => (pg_name (i := 2) sc_are_below.nd rfl (by first | exact Or.inl rfl | exact Or.inr rfl))) (fun _ _ _ _ _ => pts_nil) (fun _ _ _ _ _ => (pe_call (GA_is_below) (hr.mono (by omega)) rfl T.m_is_below T.F_is_below.kp T.b_is_below .nil pass0 (pa_cons (pv 0) (pa_cons (pv 2) pa_nil))))) pa_nil)))), ?_⟩
  walk_at "ws"
  refine i_tup (.inl hx) ?_
  intro D hD
  refine lc_pure (K := K) (o := none) (walk_tup (xs := xs)) (by omega) hD (fun _ e => nomatch e) (fun i => ts[i]?.map fun t => .bool (blw b t)) (fun H' g => .inl (g.tups _ _ hx)) ?_ ?_
  · rintro i x H1 H2 hi g ⟨rfl, hx1⟩ Qy Qn ky kn
    obtain ⟨t, ht, ha⟩ := al.get hx1
    walk_at "ws"
    refine ⟨rfl, ?_⟩
    walk_at "ws"
    refine ⟨_, hd, x, t, rfl, ha.n g, ky _ _ _ G.refl (.bl _) rfl (by rw [ht]; rfl)⟩
  · intro ys H' g hD' hds _
    rw [hl, filterMap_range_map] at hds
    obtain rfl := bools_tg hds
    walk_at "ws"
    refine ⟨D, ts.map (blw b), rfl, SqL.of hD', ?_⟩
    have e : (ts.map (blw b)).all id = ts.all (blw b) := by rw [List.all_map]; rfl
    rw [e]
    exact k _ g

theorem blw_int {b : Int} {t : Tg} (e : blw b t = true) : ∃ i, t = .int i := by
  cases t with
  | int i => exact ⟨i, rfl⟩
  | tup _ => exact Bool.noConfusion (show false = true from e)
  | non => exact Bool.noConfusion (show false = true from e)
  | bl _ => exact Bool.noConfusion (show false = true from e)
  | str _ => exact Bool.noConfusion (show false = true from e)
  | oth => exact Bool.noConfusion (show false = true from e)

def sa__law_is_whole (C : Addr → Prop) : Sp := fun vs H Q _ => ∃ (b : Int) (hd : Addr) (v : V) (t : Tg), vs = [v, .int b] ∧ Ab C hd H v t ∧ Q (.bl (blw b t)) H
theorem oka__law_is_whole (T : Txt K mg a) : FnOk P w K mg base CX0 1 a.f__law_is_whole a.d__law_is_whole P__law_is_whole (sa__law_is_whole (Cs a)) := by
  refine T.F__law_is_whole.ok sc__law_is_whole (fun vs H Q E h => by obtain ⟨b, hd, v, t, rfl, _⟩ := h; rfl) (fun cdv A outer s H vs Q E hr h => ?_)
  obtain ⟨b, hd, v, t, rfl, ha, k⟩ := h
  refine ⟨_, (pss_one (ps_ret (pe_and (pe_callB call_isi (by rfl) T.n_isinstance (by decide +kernel) (pa_cons (pv 0) (pa_cons (pe_bltn (v := .ty "int") (u := .type "int") rfl T.n_int (by decide +kernel) rfl) pa_nil))) (pe_and (pe_not (pe_callB call_isi (by rfl) T.n_isinstance (by decide +kernel) (pa_cons (pv 0) (pa_cons (pe_bltn (v := .ty "bool") (u := .type "bool") rfl T.n_bool (by decide +kernel) rfl) pa_nil)))) (pe_one (pe_chain op_le op_lt pe_int (pv 0) (pv 1))))))), ?_⟩
  walk_at "ws"
  refine ab_isi (ikT T) ha (.inl rfl) ?_
  walk_at "ws"
  have bf : ∀ {t : Tg}, isI t = false → blw b t = false := fun {t} e => by cases t <;> first | rfl | exact Bool.noConfusion (show true = false from e)
  refine w_ite (fun e => ?_) (fun e => ?_)
  · walk_at "ws"
    refine ab_isi (ikT T) ha (.inr (.inl rfl)) ?_
    walk_at "ws"
    rw [← isI_t e]
    refine w_ite (fun e => ?_) (fun e => ?_)
    · obtain ⟨i, rfl, rfl⟩ := isI_int ha e
      have k : Q (.bl (decide (0 ≤ i) && decide (i < b))) H := k
      walk_at "ws"
      refine w_ite (fun e => ?_) (fun e => ?_)
      · walk_at "ws"
        rw [e] at k
        exact k
      · rw [e] at k
        exact k
    · rw [bf e] at k
      exact k
  · rw [bf (isI_f e)] at k
    exact k

end
end Mine
/-! ## K2 -/


namespace Mine
section
variable {P : Program} {w : World} {K : PySem.W.Frag} {mg : Str → Option Value} {base : Heap} {a : Ads}

/-! ### are_below, is_unlike_pair -/
def inB (b : Int) (n : Int) : Bool := decide (0 ≤ n) && decide (n < b)
def sp_are_below (K : PySem.W.Frag) : Sp := fun vs H Q _ => ∃ (b : Int) (p : Addr) (ns : List Int), vs = [.int b, .ref p] ∧ SqT K H p (ns.map V.int) ∧ ns.length ≤ 100000 ∧ ∀ H', G none H H' → Q (.bl (ns.all (inB b))) H'
theorem ok_are_below (T : Txt K mg a) : FnOk P w K mg base CX0 4 a.f_are_below a.d_are_below P_are_below (sp_are_below K) := by
  refine T.F_are_below.ok sc_are_below (fun vs H Q E h => by obtain ⟨b, p, ns, rfl, _⟩ := h; rfl) (fun cdv A outer s H vs Q E hr h => ?_)
  obtain ⟨b, p, ns, rfl, hx, hz, k⟩ := h
  have G_is_below : FnOk P w K mg base CX0 3 a.f_is_below a.d_is_below P_is_below sp_is_below := ok_is_below T
  refine ⟨_, (pss_one (ps_ret (pe_callB (cr_all rfl) (by rfl) T.n_all (by decide +kernel) (pa_cons (pe_lc (own := [("thing", 2)]) (g := (gName 2)) (tt := tYes) rfl sc_are_below.nd (pi_tup (pv 1)) (blkOk_by (N := N_are_below) (sc := defScope s_are_below) (by decide +kernel)) (fun _ _ _ _ _ => (pg_name (i := 2) sc_are_below.nd rfl (by first | exact Or.inl rfl | exact Or.inr rfl))) (fun _ _ _ _ _ => pts_nil) (fun _ _ _ _ _ => (pe_call (G_is_below) (hr.mono (by omega)) rfl T.m_is_below T.F_is_below.kp T.b_is_below .nil pass0 (pa_cons (pv 0) (pa_cons (pv 2) pa_nil))))) pa_nil)))), ?_⟩
  walk_at "ws"
  refine i_tup hx ?_
  intro D hD
  refine lc_pure (K := K) (o := none) walk_tup (by rw [List.length_map]; exact hz) hD (fun _ e => nomatch e) (fun i => ns[i]?.map fun n => .bool (inB b n)) (fun H' g => sqT_t g.tups hx) ?_ ?_
  · rintro i x H1 H2 hi g ⟨rfl, hx1⟩ Qy Qn ky kn
    obtain ⟨n, hn, rfl⟩ : ∃ n, ns[i]? = some n ∧ V.int n = x := by
      rw [List.getElem?_map] at hx1; exact Option.map_eq_some_iff.mp hx1
    walk_at "ws"
    refine ⟨rfl, ?_⟩
    walk_at "ws"
    refine ⟨_, _, rfl, ky _ _ _ G.refl (.bl _) rfl (by rw [hn]; rfl)⟩
  · intro xs H' g hD' hds _
    rw [List.length_map, filterMap_range_map] at hds
    have e : xs = (ns.map (inB b)).map V.bl := by
      clear hD' g
      generalize ns = l at hds
      induction l generalizing xs with
      | nil => cases hds; rfl
      | cons n l ih =>
        cases hds with
        | cons h t => cases h; rw [ih _ t]; rfl
    subst e
    walk_at "ws"
    refine ⟨D, ns.map (inB b), rfl, SqL.of hD', ?_⟩
    have e : (ns.map (inB b)).all id = ns.all (inB b) := by rw [List.all_map]; rfl
    rw [e]
    exact k _ g

end
end Mine
/-! ## K3 -/


namespace Mine
section
variable {P : Program} {w : World} {K : PySem.W.Frag} {mg : Str → Option Value} {base : Heap} {a : Ads}

/-! ### records -/
/-- a tuple of tuples of ints, each with its object known -/
def Dia (K : PySem.W.Frag) (H : Hp) (p : Addr) (ds : List (List Int)) : Prop := ∃ bs : List Addr, SqT K H p (bs.map V.ref) ∧ bs.length = ds.length ∧ ∀ (i : Nat) (b : Addr) (d : List Int), bs[i]? = some b → ds[i]? = some d → FrzT H b (d.map V.int)
theorem Dia.g {H H' : Hp} {p : Addr} {ds : List (List Int)} {o : Option (Addr × Addr)} (h : Dia K H p ds) (g : G o H H') (hh : ∀ q, o = some q → Hand H q.1 q.2) : Dia K H' p ds := by
  obtain ⟨bs, h1, h2, h3⟩ := h
  refine ⟨bs, sqT_t g.tups h1, h2, fun i b d e1 e2 => ?_⟩
  obtain ⟨ob, q1, q2⟩ := h3 i b d e1 e2
  refine ⟨ob, g.keep b _ (fun q e => ?_) q1, q2⟩
  obtain ⟨_, _, _, _, _, _, z, _⟩ := hh q e
  exact ne_of q1 z (by intro z; cases z)
theorem Dia.n {H H' : Hp} {p : Addr} {ds : List (List Int)} (h : Dia K H p ds) (g : G none H H') : Dia K H' p ds := h.g g fun _ e => nomatch e
theorem Dia.at_ {H : Hp} {p : Addr} {bs : List Addr} {ds : List (List Int)} (h2 : bs.length = ds.length) (h3 : ∀ (i : Nat) (b : Addr) (d : List Int), bs[i]? = some b → ds[i]? = some d → FrzT H b (d.map V.int)) {i : Nat} {x : V} (e : (bs.map V.ref)[i]? = some x) :
    ∃ b d, x = .ref b ∧ bs[i]? = some b ∧ ds[i]? = some d ∧ FrzT H b (d.map V.int) := by
  rw [List.getElem?_map] at e
  obtain ⟨b, hb, rfl⟩ := Option.map_eq_some_iff.mp e
  have hi := (List.getElem?_eq_some_iff.mp hb).1
  exact ⟨b, ds[i], rfl, hb, List.getElem?_eq_getElem (by omega), h3 i b _ hb (List.getElem?_eq_getElem (by omega))⟩
structure IsRec (ws : List Int) (ds : List (List Int)) : Prop where
  m1 : 1 ≤ ds.length
  m7 : ds.length ≤ 7
  p30 : ws.length ≤ 30
  wr : ∀ w ∈ ws, 0 ≤ w ∧ w < ds.length
  nd : ∀ d ∈ ds, d.Nodup
  rng : ∀ d ∈ ds, ∀ p ∈ d, 0 ≤ p ∧ p < ws.length
  own : ∀ (p : Nat) (w : Int) (d : List Int), ws[p]? = some w → ds[w.toNat]? = some d → (p : Int) ∈ d
theorem diary_len {n : Nat} {d : List Int} (nd : d.Nodup) (h : ∀ p ∈ d, 0 ≤ p ∧ p < (n : Int)) : d.length ≤ n := by
  have := List.Nodup.length_le_of_subset (l₂ := (List.range n).map fun (i : Nat) => (i : Int)) nd fun x hx => by
    have := h x hx
    exact List.mem_map.mpr ⟨x.toNat, List.mem_range.mpr (by omega), by omega⟩
  simpa using this
def sp_is_diary (K : PySem.W.Frag) : Sp := fun vs H Q _ => ∃ (n : Int) (p : Addr) (d : List Int), vs = [.int n, .ref p] ∧ SqT K H p (d.map V.int) ∧ (∀ x ∈ d, 0 ≤ x ∧ x < n) ∧ d.Nodup ∧ d.length ≤ 1000 ∧ ∀ H', G none H H' → Q (.bl true) H'
theorem ok_is_diary (T : Txt K mg a) : FnOk P w K mg base CX0 5 a.f_is_diary a.d_is_diary P_is_diary (sp_is_diary K) := by
  refine T.F_is_diary.ok sc_is_diary (fun vs H Q E h => by obtain ⟨n, p, d, rfl, _⟩ := h; rfl) (fun cdv A outer s H vs Q E hr h => ?_)
  obtain ⟨n, p, d, rfl, hp, hd, nd, hz, k⟩ := h
  have G_are_below : FnOk P w K mg base CX0 4 a.f_are_below a.d_are_below P_are_below (sp_are_below K) := ok_are_below T
  refine ⟨_, (pss_one (ps_ret (pe_and (pe_callB call_isi (by rfl) T.n_isinstance (by decide +kernel) (pa_cons (pv 1) (pa_cons (pe_bltn (v := .ty "tuple") (u := .type "tuple") rfl T.n_tuple (by decide +kernel) rfl) pa_nil))) (pe_and (pe_call (G_are_below) (hr.mono (by omega)) rfl T.m_are_below T.F_are_below.kp T.b_are_below .nil pass0 (pa_cons (pv 0) (pa_cons (pv 1) pa_nil))) (pe_one (pe_cmpR op_eq (pe_lenSetTI rfl (by rfl) T.n_len (by rfl) T.n_set (pv 1)) (pe_callB call_len_seq (by rfl) T.n_len (by decide +kernel) (pa_cons (pv 1) pa_nil)) (nomark _))))))), ?_⟩
  walk_at "ws"
  refine r_isi (tyx_tup hp) ki_tt ?_
  walk_at "ws"
  refine ⟨n, p, d, rfl, hp, by omega, fun H1 g1 => ?_⟩
  have e1 : d.all (inB n) = true := by
    rw [List.all_eq_true]
    intro x hx
    have := hd x hx
    simp only [inB, Bool.and_eq_true, decide_eq_true_eq]
    exact this
  rw [e1]
  walk_at "ws"
  refine ⟨.ref p, rfl, p, d, rfl, sqT_t g1.tups hp, hz, nd, ?_⟩
  walk_at "ws"
  refine ⟨p, _, rfl, .inr (sqT_t g1.tups hp), ?_⟩
  walk_at "ws"
  rw [List.length_map, decide_eq_true (rfl : (d.length : Int) = d.length)]
  exact k _ g1

def sp_check_record (K : PySem.W.Frag) : Sp := fun vs H Q _ => ∃ (wp dp : Addr) (ws : List Int) (ds : List (List Int)), vs = [.ref wp, .ref dp] ∧ SqT K H wp (ws.map V.int) ∧ Dia K H dp ds ∧ IsRec ws ds ∧ ∀ H', G none H H' → Q .non H'
theorem ok_check_record (T : Txt K mg a) : FnOk P w K mg base CX0 6 a.f_check_record a.d_check_record P_check_record (sp_check_record K) := by
  refine T.F_check_record.ok sc_check_record (fun vs H Q E h => by obtain ⟨wp, dp, ws, ds, rfl, _⟩ := h; rfl) (fun cdv A outer s H vs Q E hr h => ?_)
  obtain ⟨wp, dp, ws, ds, rfl, hw, hdia, rec, k⟩ := h
  have G_is_tuple_of : FnOk P w K mg base CX0 1 a.f_is_tuple_of a.d_is_tuple_of P_is_tuple_of (sp_is_tuple_of K) := ok_is_tuple_of T
  have G_is_below : FnOk P w K mg base CX0 3 a.f_is_below a.d_is_below P_is_below sp_is_below := ok_is_below T
  have G_is_diary : FnOk P w K mg base CX0 5 a.f_is_diary a.d_is_diary P_is_diary (sp_is_diary K) := ok_is_diary T
  obtain ⟨bs, hbs, lb, hb⟩ := hdia
  have m1 := rec.m1
  have m7 := rec.m7
  have p30 := rec.p30
  refine ⟨_, (pss_cons (ps_if (pt_not (pt_val (pe_call (G_is_tuple_of) (hr.mono (by omega)) rfl T.m_is_tuple_of T.F_is_tuple_of.kp T.b_is_tuple_of .nil pass0 (pa_cons pe_int (pa_cons (pe_glob (v := .int 7) rfl T.m_MOST_MACHINES ⟨_, rfl⟩) (pa_cons (pv 1) pa_nil))))))
    pss_never
    pss_nil)
  (pss_cons (ps_if (pt_not (pt_val (pe_call (G_is_tuple_of) (hr.mono (by omega)) rfl T.m_is_tuple_of T.F_is_tuple_of.kp T.b_is_tuple_of .nil pass0 (pa_cons pe_int (pa_cons (pe_glob (v := .int 30) rfl T.m_MOST_PUTS ⟨_, rfl⟩) (pa_cons (pv 0) pa_nil))))))
    pss_never
    pss_nil)
  (pss_cons (ps_for PassesOwn.never rfl (pi_enumT (by rfl) T.n_enumerate (pa_cons (pv 0) pa_nil)) (pg_tup rfl (pgs_cons (pg_name (i := 2) sc_check_record.nd rfl (Or.inl rfl)) (pgs_cons (pg_name (i := 3) sc_check_record.nd rfl (Or.inl rfl)) pgs_nil)))
    (pss_one (ps_if (pt_not (pt_val (pe_call (G_is_below) (hr.mono (by omega)) rfl T.m_is_below T.F_is_below.kp T.b_is_below .nil pass0 (pa_cons (pe_callB call_len_seq (by rfl) T.n_len (by decide +kernel) (pa_cons (pv 1) pa_nil)) (pa_cons (pv 3) pa_nil)))))
    pss_never
    pss_nil)))
  (pss_cons (ps_for PassesOwn.never rfl (pi_enumT (by rfl) T.n_enumerate (pa_cons (pv 1) pa_nil)) (pg_tup rfl (pgs_cons (pg_name (i := 4) sc_check_record.nd rfl (Or.inl rfl)) (pgs_cons (pg_name (i := 5) sc_check_record.nd rfl (Or.inl rfl)) pgs_nil)))
    (pss_one (ps_if (pt_not (pt_val (pe_call (G_is_diary) (hr.mono (by omega)) rfl T.m_is_diary T.F_is_diary.kp T.b_is_diary .nil pass0 (pa_cons (pe_callB call_len_seq (by rfl) T.n_len (by decide +kernel) (pa_cons (pv 0) pa_nil)) (pa_cons (pv 5) pa_nil)))))
    pss_never
    pss_nil)))
  (pss_one (ps_for PassesOwn.never rfl (pi_enumT (by rfl) T.n_enumerate (pa_cons (pv 0) pa_nil)) (pg_tup rfl (pgs_cons (pg_name (i := 2) sc_check_record.nd rfl (Or.inl rfl)) (pgs_cons (pg_name (i := 3) sc_check_record.nd rfl (Or.inl rfl)) pgs_nil)))
    (pss_one (ps_if (pt_cmpR op_notIn_seq (pv 2) (pe_ix ix_tup (pv 1) (pv 3) (fun _ _ => rfl)) (by rfl))
    pss_never
    pss_nil)))))))), ?_⟩
  walk_at "ws"
  refine ⟨1, 7, dp, _, rfl, hbs, ?_⟩
  have q1 : (1 : Int) ≤ (bs.length : Int) := by omega
  have q2 : (bs.length : Int) ≤ 7 := by omega
  rw [List.length_map, decide_eq_true q1, decide_eq_true q2, Bool.and_self]
  walk_at "ws"
  refine ⟨0, 30, wp, _, rfl, hw, ?_⟩
  have q3 : (0 : Int) ≤ (ws.length : Int) := by omega
  have q4 : (ws.length : Int) ≤ 30 := by omega
  rw [List.length_map, decide_eq_true q3, decide_eq_true q4, Bool.and_self]
  walk_at "ws"
  refine i_enum hw ?_
  refine for_it (walk_enumT (xs := ws.map V.int)) (fun i σ H1 => G none H H1 ∧ ∃ u2 u3 u4 u5, σ = [some (.ref wp), some (.ref dp), u2, u3, u4, u5]) ⟨G.refl, _, _, _, _, rfl⟩ (fun i σ H1 _ h => sqT_t h.1.tups hw) ?_ ?_
  · rintro i x σ H1 H2 hi ⟨g1, u2, u3, u4, u5, rfl⟩ ⟨t, y, z, rfl, ht, rfl, ey, ez⟩
    cases Option.some.inj ey
    have g2 : G none H1 (upd H1 t (.tup [.int (i : Nat), z])) := G.alloc ht
    refine ⟨t, _, rfl, SqT.of upd_same, rfl, ?_⟩
    refine ⟨_, _, rfl, ?_⟩
    walk_at "ws"
    refine ⟨_, _, rfl, ?_⟩
    walk_at "ws"
    refine ⟨rfl, ?_⟩
    generalize upd H1 t (.tup [.int (i : Nat), z]) = H2 at g2 ⊢
    have g02 := g1.trans g2
    have ez : (ws.map V.int)[i]? = some z := ez
    rw [List.getElem?_map] at ez
    obtain ⟨w0, hw0, rfl⟩ := Option.map_eq_some_iff.mp ez
    have wm := rec.wr w0 (List.mem_of_getElem? hw0)
    walk_at "ws"
    refine ⟨dp, _, rfl, .inr (sqT_t g02.tups hbs), ?_⟩
    walk_at "ws"
    rw [List.length_map]
    refine ⟨_, _, rfl, ?_⟩
    have q5 : w0 < (bs.length : Int) := by omega
    rw [decide_eq_true wm.1, decide_eq_true q5, Bool.and_self]
    walk_at "ws"
    exact ⟨g02, _, _, _, _, rfl⟩
  rintro σ H1 ⟨g1, u2, u3, u4, u5, rfl⟩
  walk_at "ws"
  refine i_enum (sqT_t g1.tups hbs) ?_
  refine for_it (walk_enumT (xs := bs.map V.ref)) (fun i σ H1 => G none H H1 ∧ ∃ u2 u3 u4 u5, σ = [some (.ref wp), some (.ref dp), u2, u3, u4, u5]) ⟨g1, _, _, _, _, rfl⟩ (fun i σ H1 _ h => sqT_t h.1.tups hbs) ?_ ?_
  · rintro i x σ H2 H3 hi ⟨g2, u2, u3, u4, u5, rfl⟩ ⟨t, y, z, rfl, ht, rfl, ey, ez⟩
    cases Option.some.inj ey
    have g3 : G none H2 (upd H2 t (.tup [.int (i : Nat), z])) := G.alloc ht
    refine ⟨t, _, rfl, SqT.of upd_same, rfl, ?_⟩
    refine ⟨_, _, rfl, ?_⟩
    walk_at "ws"
    refine ⟨_, _, rfl, ?_⟩
    walk_at "ws"
    refine ⟨rfl, ?_⟩
    generalize upd H2 t (.tup [.int (i : Nat), z]) = H3 at g3 ⊢
    have g03 := g2.trans g3
    obtain ⟨b, d, rfl, hbi, hdi, hf⟩ := Dia.at_ (p := dp) lb hb ez
    walk_at "ws"
    refine ⟨wp, _, rfl, .inr (sqT_t g03.tups hw), ?_⟩
    walk_at "ws"
    rw [List.length_map]
    have dm := List.mem_of_getElem? hdi
    refine ⟨_, b, d, rfl, (hf.n g03).sq, rec.rng d dm, rec.nd d dm, by have := diary_len (rec.nd d dm) (rec.rng d dm); omega, fun H4 g4 => ?_⟩
    walk_at "ws"
    exact ⟨g03.trans g4, _, _, _, _, rfl⟩
  rintro σ H2 ⟨g2, u2, u3, u4, u5, rfl⟩
  walk_at "ws"
  refine i_enum (sqT_t g2.tups hw) ?_
  refine for_it (walk_enumT (xs := ws.map V.int)) (fun i σ H1 => G none H H1 ∧ ∃ u2 u3 u4 u5, σ = [some (.ref wp), some (.ref dp), u2, u3, u4, u5]) ⟨g2, _, _, _, _, rfl⟩ (fun i σ H1 _ h => sqT_t h.1.tups hw) ?_ ?_
  · rintro i x σ H3 H4 hi ⟨g3, u2, u3, u4, u5, rfl⟩ ⟨t, y, z, rfl, ht, rfl, ey, ez⟩
    cases Option.some.inj ey
    have g4 : G none H3 (upd H3 t (.tup [.int (i : Nat), z])) := G.alloc ht
    refine ⟨t, _, rfl, SqT.of upd_same, rfl, ?_⟩
    refine ⟨_, _, rfl, ?_⟩
    walk_at "ws"
    refine ⟨_, _, rfl, ?_⟩
    walk_at "ws"
    refine ⟨rfl, ?_⟩
    generalize upd H3 t (.tup [.int (i : Nat), z]) = H4 at g4 ⊢
    have g04 := g3.trans g4
    have ez : (ws.map V.int)[i]? = some z := ez
    rw [List.getElem?_map] at ez
    obtain ⟨w0, hw0, rfl⟩ := Option.map_eq_some_iff.mp ez
    have wm := rec.wr w0 (List.mem_of_getElem? hw0)
    obtain ⟨b, hbw⟩ : ∃ b, bs[w0.toNat]? = some b := ⟨_, List.getElem?_eq_getElem (by omega)⟩
    obtain ⟨d, hdw⟩ : ∃ d, ds[w0.toNat]? = some d := ⟨_, List.getElem?_eq_getElem (by omega)⟩
    have hf := (hb _ _ _ hbw hdw).n g04
    walk_at "ws"
    refine r_ixT (sqT_t g04.tups hbs) (v := .ref b) (at_of (j := w0.toNat) (by omega) (by rw [List.getElem?_map, hbw]; rfl)) ?_
    walk_at "ws"
    refine ⟨b, _, rfl, .inr hf.sq, rfl, by rw [List.all_map, List.all_eq_true]; intro q _; rfl, ?_⟩
    have ein : inV (.int (i : Nat)) (d.map V.int) = true := by
      unfold inV
      rw [List.any_map, List.any_eq_true]
      exact ⟨_, rec.own i w0 d hw0 hdw, by simp [eqV]⟩
    rw [ein]
    walk_at "ws"
    exact ⟨g04, _, _, _, _, rfl⟩
  rintro σ H3 ⟨g3, u2, u3, u4, u5, rfl⟩
  exact k _ g3

end
end Mine
/-! ## K4 -/


namespace Mine
section
variable {P : Program} {w : World} {K : PySem.W.Frag} {mg : Str → Option Value} {base : Heap} {a : Ads}

/-! ### a record as an instance -/
theorem wd_ : ¬ (("writers" : Str) = "diaries") := by decide +kernel
theorem dw_ : ¬ (("diaries" : Str) = "writers") := by decide +kernel
def rf (w d : V) : List (Str × V) := [("writers", w), ("diaries", d)]
theorem rf_w (w d : V) : (rf w d).lookup ("writers" : Str) = some w := by simp [rf, List.lookup]
theorem rf_d (w d : V) : (rf w d).lookup ("diaries" : Str) = some d := by
  have e : (("diaries" : Str) == "writers") = false := by simpa using dw_
  simp [rf, List.lookup, e]
theorem rput0 (w : V) : putF "writers" w [] = [(("writers" : Str), w)] := rfl
theorem rput1 (w d : V) : putF "diaries" d [(("writers" : Str), w)] = rf w d := by
  show (if ("writers" : Str) = "diaries" then _ else (("writers" : Str), w) :: putF "diaries" d []) = _
  rw [if_neg wd_]; rfl
def RecAt (K : PySem.W.Frag) (C : Addr) (H : Hp) (x : Addr) (ws : List Int) (ds : List (List Int)) : Prop := ∃ (dx wp dp : Addr), H x = some (.ins C dx (rf (.ref wp) (.ref dp))) ∧ SqT K H wp (ws.map V.int) ∧ Dia K H dp ds
theorem RecAt.n {C x : Addr} {ws : List Int} {ds : List (List Int)} {H H' : Hp} (h : RecAt K C H x ws ds) (g : G none H H') : RecAt K C H' x ws ds := by
  obtain ⟨dx, wp, dp, h1, h2, h3⟩ := h
  exact ⟨dx, wp, dp, g.all x _ h1, sqT_t g.tups h2, h3.n g⟩
theorem r_fld {o : Addr} {C dx : Addr} {fs : List (Str × V)} {v : V} {f : Str} {H : Hp} {F : V → Prop} (e : H o = some (.ins C dx fs)) (c : Cls K C) (n : NoAttr K C f) (l : fs.lookup f = some v) (q : F v) :
    ∃ a C dx fs v, V.ref o = .ref a ∧ H a = some (.ins C dx fs) ∧ Cls K C ∧ NoAttr K C f ∧ fs.lookup f = some v ∧ F v := ⟨o, C, dx, fs, v, rfl, e, c, n, l, q⟩
theorem r_sfld {o : Addr} {C dx : Addr} {fs : List (Str × V)} {F : Hp → Prop} {f : Str} {y : V} {H : Hp} (e : H o = some (.ins C dx fs)) (c : Cls K C) (n : NoAttr K C f) (l : fs.length < 1000) (q : F (upd H o (.ins C dx (putF f y fs)))) :
    ∃ a C dx fs, V.ref o = .ref a ∧ H a = some (.ins C dx fs) ∧ Cls K C ∧ NoAttr K C f ∧ fs.length < 1000 ∧ F (upd H a (.ins C dx (putF f y fs))) := ⟨o, C, dx, fs, rfl, e, c, n, l, q⟩
theorem ts_updI {H : Hp} {x C dx : Addr} {fs : List (Str × V)} {u : HO} (h : H x = some (.ins C dx fs)) : Ts H (upd H x u) := fun a xs e => by
  rcases e with e | ⟨ob, e⟩
  · exact .inl (by rw [upd_ne (ne_of e h (by intro z; cases z))]; exact e)
  · exact .inr ⟨ob, by rw [upd_ne (ne_of e h (by intro z; cases z))]; exact e⟩
def sp_Record_init (K : PySem.W.Frag) (C : Addr) : Sp := fun vs H Q _ => ∃ (x dx wp dp : Addr) (ws : List Int) (ds : List (List Int)), vs = [.ref x, .ref wp, .ref dp] ∧ H x = some (.ins C dx []) ∧ SqT K H wp (ws.map V.int) ∧ Dia K H dp ds ∧ IsRec ws ds ∧
  ∀ H', (∀ b u, b ≠ x → H b = some u → H' b = some u) → H' x = some (.ins C dx (rf (.ref wp) (.ref dp))) → Q .non H'
theorem ok_Record_init (T : Txt K mg a) : FnOk P w K mg base CX0 7 a.f_Record_init a.d_Record_init P_Record_init (sp_Record_init K a.c_Record) := by
  refine T.F_Record_init.ok sc_Record_init (fun vs H Q E h => by obtain ⟨x, dx, wp, dp, ws, ds, rfl, _⟩ := h; rfl) (fun cdv A outer s H vs Q E hr h => ?_)
  obtain ⟨x, dx, wp, dp, ws, ds, rfl, hxi, hw, hd, rec, k⟩ := h
  have G_check_record : FnOk P w K mg base CX0 6 a.f_check_record a.d_check_record P_check_record (sp_check_record K) := ok_check_record T
  refine ⟨_, (pss_cons (ps_expr (pe_call (G_check_record) (hr.mono (by omega)) rfl T.m_check_record T.F_check_record.kp T.b_check_record .nil pass0 (pa_cons (pv 1) (pa_cons (pv 2) pa_nil))))
  (pss_cons (ps_fld (pv 0) (pv 1) rfl)
  (pss_one (ps_fld (pv 0) (pv 2) rfl)))), ?_⟩
  walk_at "ws"
  refine ⟨wp, dp, ws, ds, rfl, hw, hd, rec, fun H1 g1 => ?_⟩
  walk_at "ws"
  have h1 := g1.all _ _ hxi
  refine r_sfld h1 T.cl_Record T.na_Record_writers (by show 0 < 1000; decide) ?_
  walk_at "ws"
  refine r_sfld upd_same T.cl_Record T.na_Record_diaries (by rw [rput0]; show 1 < 1000; decide) ?_
  rw [rput0, rput1]
  refine k _ (fun b u n e => ?_) upd_same
  rw [upd_ne n, upd_ne n]; exact g1.all _ _ e

theorem rec_new {C : Addr} {H1 : Hp} {wp dp : Addr} {ws : List Int} {ds : List (List Int)} {F : Addr → Hp → Prop} {E : XK} (hw : SqT K H1 wp (ws.map V.int)) (hd : Dia K H1 dp ds) (rec : IsRec ws ds) (q : ∀ x H2, H1 x = none → (∀ o, G o H1 H2) → RecAt K C H2 x ws ds → F x H2) :
    ∀ x dx, H1 x = none → H1 dx = none → dx ≠ x → sp_Record_init K C (.ref x :: ([.ref wp, .ref dp] ++ [])) (upd (upd H1 dx (.own x)) x (.ins C dx [])) (fun v H2 => v = .non ∧ F x H2) E := by
  intro x dx hx hdx nex
  have hxi : (upd (upd H1 dx (.own x)) x (.ins C dx [])) x = some (.ins C dx []) := upd_same
  have k12 : ∀ a u, H1 a = some u → (upd (upd H1 dx (.own x)) x (.ins C dx [])) a = some u := fun a u e => by
    rw [upd_ne (ne_of_none e hx), upd_ne (ne_of_none e hdx)]; exact e
  have g12 : G none H1 (upd (upd H1 dx (.own x)) x (.ins C dx [])) := G.of_all k12
  refine ⟨x, dx, wp, dp, ws, ds, rfl, hxi, sqT_t g12.tups hw, hd.n g12, rec, fun H2 k2 h2 => ⟨rfl, ?_⟩⟩
  have g : ∀ o, G o H1 H2 := fun o => G.of_all fun a u e => k2 a u (ne_of_none e hx) (k12 a u e)
  exact q x H2 hx g ⟨dx, wp, dp, h2, sqT_t (g none).tups hw, hd.n (g none)⟩
theorem bools_told {H : Hp} {α : Type} {f : α → Bool} : ∀ {xs : List V} {l : List α}, DpAll K H xs (l.map fun z => PyData.bool (f z)) → xs = (l.map f).map V.bl
  | _, [], h => by cases h; rfl
  | _, z :: l, h => by
    cases h with
    | cons h t => cases h; rw [bools_told t]; rfl

end
end Mine
/-! ## K5 -/


namespace Mine
section
variable {P : Program} {w : World} {K : PySem.W.Frag} {mg : Str → Option Value} {base : Heap} {a : Ads}

/-! ### what was ahead -/
/-- t[lo:hi] of a tuple -/
def rSlAN (K : PySem.W.Frag) : V → Option Int → Option Int → Hp → VK → Prop := fun x lo hi H Q => ∃ a xs, x = .ref a ∧ SqT K H a xs ∧ ∀ p H2, (∀ o, G o H H2) → SqT K H2 p (cutV xs lo hi) → Q (.ref p) H2
theorem sl_tupAN {X : Cx} : SlR X (rSlAN X.K) := SlR.weak sl_tupA fun x lo hi H Q ⟨a, xs, e, h, q⟩ => ⟨a, xs, e, h, fun w => q a H (fun _ => G.refl) (by
    have c : cutV xs lo hi = xs := by
      unfold cutV
      rw [w.1, w.2, List.drop_zero, Nat.sub_zero, List.take_length]
    rw [c]; exact h), fun _ p hp => q p _ (fun _ => G.alloc hp) (SqT.of upd_same)⟩
theorem cut_to (xs : List V) {k : Nat} (h : k ≤ xs.length) : cutV xs none (some (k : Int)) = xs.take k := by
  unfold cutV
  rw [HT.sIx_none, HT.sIx_nat, List.drop_zero, Nat.sub_zero, Nat.min_eq_left h]
theorem idx_lt {os : List Int} {z : Int} (h : z ∈ os) : os.idxOf z < os.length := List.idxOf_lt_length_iff.mpr h
theorem idx_at {os : List Int} {z : Int} (h : z ∈ os) : os[os.idxOf z]? = some z := by
  rw [List.getElem?_eq_getElem (idx_lt h)]
  exact congrArg some (List.getElem_idxOf (idx_lt h))
theorem idx_of {os : List Int} (nd : os.Nodup) {j : Nat} {z : Int} (h : os[j]? = some z) : os.idxOf z = j := nd_ix nd (idx_at (List.mem_of_getElem? h)) h
def sp_check_put (K : PySem.W.Frag) (C : Addr) : Sp := fun vs H Q _ => ∃ (x : Addr) (ws : List Int) (ds : List (List Int)) (p : Nat), vs = [.ref x, .int p] ∧ RecAt K C H x ws ds ∧ p < ws.length ∧ Q .non H
theorem ok_check_put (T : Txt K mg a) : FnOk P w K mg base CX0 4 a.f_check_put a.d_check_put P_check_put (sp_check_put K a.c_Record) := by
  refine T.F_check_put.ok sc_check_put (fun vs H Q E h => by obtain ⟨x, ws, ds, p, rfl, _⟩ := h; rfl) (fun cdv A outer s H vs Q E hr h => ?_)
  obtain ⟨x, ws, ds, p, rfl, ⟨dx, wp, dp, hxi, hw, hdia⟩, hp, k⟩ := h
  have G_is_below : FnOk P w K mg base CX0 3 a.f_is_below a.d_is_below P_is_below sp_is_below := ok_is_below T
  refine ⟨_, (pss_one (ps_if (pt_not (pt_val (pe_call (G_is_below) (hr.mono (by omega)) rfl T.m_is_below T.F_is_below.kp T.b_is_below .nil pass0 (pa_cons (pe_callB call_len_seq (by rfl) T.n_len (by decide +kernel) (pa_cons (pe_fld (pv 0) rfl) pa_nil)) (pa_cons (pv 1) pa_nil)))))
    pss_never
    pss_nil)), ?_⟩
  walk_at "ws"
  refine r_fld hxi T.cl_Record T.na_Record_writers (rf_w _ _) ?_
  refine ⟨wp, _, rfl, .inr hw, ?_⟩
  walk_at "ws"
  rw [List.length_map]
  refine ⟨_, _, rfl, ?_⟩
  have q3 : (0 : Int) ≤ (p : Int) := by omega
  have q4 : (p : Int) < (ws.length : Int) := by omega
  rw [decide_eq_true q3, decide_eq_true q4, Bool.and_self]
  walk_at "ws"
  exact k

end
end Mine
/-! ## K6 -/


namespace Mine
section
variable {P : Program} {w : World} {K : PySem.W.Frag} {mg : Str → Option Value} {base : Heap} {a : Ads}

/-! ### the hand of draws -/
def sp__law_hand (K : PySem.W.Frag) : Sp := fun vs H Q _ => ∃ (s : Addr) (ns : List Int), vs = [.ref s] ∧ SqL K H s (ns.map V.int) ∧ ns.length ≤ 63 ∧ ∀ hd c H', G none H H' → Hand H' hd c → Q (.ref hd) H'
theorem ok__law_hand (T : Txt K mg a) : FnOk P w K mg base CX0 1 a.f__law_hand a.d__law_hand P__law_hand (sp__law_hand K) := by
  refine T.F__law_hand.ok sc__law_hand (fun vs H Q E h => by obtain ⟨s, ns, rfl, _⟩ := h; rfl) (fun cdv A outer s0 H vs Q E hr h => ?_)
  obtain ⟨s, ns, rfl, hs, hl, k⟩ := h
  refine ⟨_, (pss_cons (ps_setLc (i := 1) (own := [("_law_cell", 2)]) (g := (gName 2)) (tt := tYes)  rfl sc__law_hand.nd rfl rfl (sw_true rfl rfl rfl (by decide +kernel)) (pi_list (pe_slice sl_list (pv 0) po_none (po_some pe_int))) (blkOk_by (N := N__law_hand) (sc := defScope s__law_hand) (by decide +kernel)) (fun _ _ _ _ _ => (pg_name (i := 2) sc__law_hand.nd rfl (by first | exact Or.inl rfl | exact Or.inr rfl))) (fun _ _ _ _ _ => pts_nil) (fun _ _ _ _ _ => (pe_callB call_abs (by rfl) T.n_abs (by decide +kernel) (pa_cons (pe_callTy call_int1 (by rfl) T.n_int (by decide +kernel) (pa_cons (pv 2) pa_nil)) pa_nil))))
  (pss_one (ps_ret (pe_lstN (pa_cons (pv 1) (pa_cons pe_int (pa_cons pe_int (pa_cons (pe_op op_add pe_int (pe_callB call_len_seq (by rfl) T.n_len (by decide +kernel) (pa_cons (pv 1) pa_nil))) (pa_cons pe_int pa_nil))))))))), ?_⟩
  walk_at "ws"
  refine ⟨s, _, rfl, hs, fun p hp => ?_⟩
  obtain ⟨ms, hms⟩ : ∃ ms : List Int, cutV (ns.map V.int) none (some 63) = ms.map V.int := ints_of fun v hv => by
    obtain ⟨n, _, e⟩ := List.mem_map.mp (mem_cutV hv)
    exact ⟨n, e.symm⟩
  have hz : ms.length ≤ 63 := by
    have e := cutV_length (ns.map V.int) none (some 63)
    rw [hms, List.length_map, List.length_map] at e
    omega
  rw [hms]
  have g1 : G none H (upd H p (.lst (ms.map V.int))) := G.alloc hp
  have h1 : upd H p (.lst (ms.map V.int)) p = some (.lst (ms.map V.int)) := upd_same
  generalize upd H p (.lst (ms.map V.int)) = H1 at g1 h1 ⊢
  walk_at "ws"
  refine i_list (SqL.of h1) ?_
  intro D hD
  refine lc_pure (K := K) (o := none) walk_list (by rw [List.length_map]; omega) hD (fun _ e => nomatch e) (fun i => ms[i]?.map fun n => .int (if n < 0 then -n else n)) (fun H' g => SqL.of (g.all _ _ h1)) ?_ ?_
  · rintro i x H2 H3 hi g ⟨rfl, hx1⟩ Qy Qn ky kn
    obtain ⟨n, hn, rfl⟩ : ∃ n, ms[i]? = some n ∧ V.int n = x := by
      rw [List.getElem?_map] at hx1; exact Option.map_eq_some_iff.mp hx1
    walk_at "ws"
    refine ⟨rfl, ?_⟩
    walk_at "ws"
    refine .inl ⟨_, rfl, ?_⟩
    walk_at "ws"
    exact ⟨_, rfl, ky _ _ _ G.refl (.int _) rfl (by rw [hn]; rfl)⟩
  · intro xs H' g hD' hds _
    rw [List.length_map, filterMap_range_map] at hds
    obtain ⟨cs, rfl⟩ : ∃ cs : List Int, xs = cs.map V.int := ⟨_, DpAll.of_ints (ns := ms.map fun n => if n < 0 then -n else n) (by rw [List.map_map]; exact hds)⟩
    have g2 := g1.trans g
    walk_at "ws"
    refine ⟨D, _, rfl, .inl (SqL.of hD'), ?_⟩
    walk_at "ws"
    refine ⟨sz (by simp), fun q H3 hq g3 h3 => ?_⟩
    exact k q D _ (g2.trans (g3 none)) ⟨ne_of_none hD' hq, ⟨cs, (g3 none).all _ _ hD'⟩, _, _, _, _, h3, Int.le_refl _⟩

def sp__law_draw : Sp := fun vs H Q _ => ∃ (hd c : Addr) (n : Int), vs = [.ref hd, .int n] ∧ Hand H hd c ∧ 0 < n ∧ n ≤ 100000 ∧ ∀ r H', 0 ≤ r → r < n → G (some (hd, c)) H H' → Hand H' hd c → Q (.int r) H'
theorem st5 {x0 x1 x2 x3 x4 v : V} {j : Nat} {hd : Addr} {z : Int} {H : Hp} {F : Hp → Prop} (h : H hd = some (.lst [x0, x1, x2, x3, x4])) (e : ixN 5 z = some j) (q : F (upd H hd (.lst (([x0, x1, x2, x3, x4] : List V).set j v)))) : rSetL (.ref hd) (.int z) v H F := ⟨hd, _, z, j, rfl, rfl, h, e, q⟩
theorem ok__law_draw (T : Txt K mg a) : FnOk P w K mg base CX0 1 a.f__law_draw a.d__law_draw P__law_draw sp__law_draw := by
  refine T.F__law_draw.ok sc__law_draw (fun vs H Q E h => by obtain ⟨hd, c, n, rfl, _⟩ := h; rfl) (fun cdv A outer s0 H vs Q E hr h => ?_)
  obtain ⟨hd, c, n, rfl, hh, n0, n1, k⟩ := h
  have hh' := hh
  obtain ⟨nc, ⟨ns, hc⟩, i, b, m, z, h, hi⟩ := hh'
  refine ⟨_, (pss_cons (ps_if (L2.PW.pt (pw_and (pt_cmpR op_eq (pe_ix ix_list (pv 0) pe_int (fun _ _ => rfl)) pe_int (nomark _)) (pw_and1 (pt_cmpR op_lt (pe_ix ix_list (pv 0) pe_int (fun _ _ => rfl)) (pe_callB call_len_seq (by rfl) T.n_len (by decide +kernel) (pa_cons (pe_ix ix_list (pv 0) pe_int (fun _ _ => rfl)) pa_nil)) (nomark _)))))
    (pss_cons (ps_set (i := 2) sc__law_draw.nd rfl (Or.inl rfl) (pe_ix ix_list (pe_ix ix_list (pv 0) pe_int (fun _ _ => rfl)) (pe_ix ix_list (pv 0) pe_int (fun _ _ => rfl)) (fun _ _ => rfl)))
  (pss_cons (ps_asg (pe_op op_add (pe_ix ix_list (pv 0) pe_int (fun _ _ => rfl)) pe_int) (pg_sub (pv 0) pe_int set_list))
  (pss_cons (ps_asg (pe_op op_mod (pe_callTy call_int1 (by rfl) T.n_int (by decide +kernel) (pa_cons (pe_op op_add (pe_op op_add (pe_op op_mul (pe_ix ix_list (pv 0) pe_int (fun _ _ => rfl)) pe_int) (pv 2)) pe_int) pa_nil)) pe_int) (pg_sub (pv 0) pe_int set_list))
  (pss_one (ps_if (pt_cmpR op_ge (pv 2) (pe_op op_pow pe_int pe_int) (nomark _))
    (pss_one (ps_asg (pv 2) (pg_sub (pv 0) pe_int set_list)))
    pss_nil)))))
    pss_nil)
  (pss_cons (ps_if (pt_cmpR op_gt (pe_ix ix_list (pv 0) pe_int (fun _ _ => rfl)) pe_int (nomark _))
    (pss_cons (ps_set (i := 3) sc__law_draw.nd rfl (Or.inl rfl) (pe_op op_mod (pe_callTy call_int1 (by rfl) T.n_int (by decide +kernel) (pa_cons (pe_ix ix_list (pv 0) pe_int (fun _ _ => rfl)) pa_nil)) (pv 1)))
  (pss_cons (ps_asg (pe_op op_fdiv (pe_ix ix_list (pv 0) pe_int (fun _ _ => rfl)) (pv 1)) (pg_sub (pv 0) pe_int set_list))
  (pss_one (ps_ret (pv 3)))))
    pss_nil)
  (pss_cons (ps_asg (pe_op op_add (pe_ix ix_list (pv 0) pe_int (fun _ _ => rfl)) pe_int) (pg_sub (pv 0) pe_int set_list))
  (pss_cons (ps_set (i := 4) sc__law_draw.nd rfl (Or.inl rfl) (pe_op op_mod (pe_callTy call_int1 (by rfl) T.n_int (by decide +kernel) (pa_cons (pe_op op_mul (pe_callTy call_int1 (by rfl) T.n_int (by decide +kernel) (pa_cons (pe_op op_add (pe_ix ix_list (pv 0) pe_int (fun _ _ => rfl)) (pe_op op_mul pe_int (pe_ix ix_list (pv 0) pe_int (fun _ _ => rfl)))) pa_nil)) pe_int) pa_nil)) pe_int))
  (pss_cons (ps_set (i := 4) sc__law_draw.nd rfl (Or.inl rfl) (pe_op op_mod (pe_callTy call_int1 (by rfl) T.n_int (by decide +kernel) (pa_cons (pe_op op_mul (pv 4) (pe_op op_add (pe_op op_fdiv (pv 4) pe_int) pe_int)) pa_nil)) pe_int))
  (pss_cons (ps_set (i := 4) sc__law_draw.nd rfl (Or.inl rfl) (pe_op op_mod (pe_callTy call_int1 (by rfl) T.n_int (by decide +kernel) (pa_cons (pe_op op_mul (pv 4) (pe_op op_add (pe_op op_fdiv (pv 4) pe_int) pe_int)) pa_nil)) pe_int))
  (pss_one (ps_ret (pe_op op_mod (pe_callTy call_int1 (by rfl) T.n_int (by decide +kernel) (pa_cons (pe_op op_fdiv (pv 4) pe_int) pa_nil)) (pv 1)))))))))), ?_⟩
  refine w_seqM (fun σ H1 => ∃ (i b m z : Int) (x : Option V), σ = [some (.ref hd), some (.int n), x, none, none] ∧ (∀ a, a ≠ hd → H1 a = H a) ∧ H1 hd = some (.lst [.ref c, .int i, .int b, .int m, .int z]) ∧ 0 ≤ i) (fun N kN => ?_) ?_
  · walk_at "ws"
    refine r_ixL (SqL.of h) (v := .int b) rfl ?_
    walk_at "ws"
    refine w_ite (fun e => ?_) (fun e => ?_)
    · walk_at "ws"
      refine r_ixL (SqL.of h) (v := .int i) rfl ?_
      walk_at "ws"
      refine r_ixL (SqL.of h) (v := .ref c) rfl ?_
      walk_at "ws"
      refine ⟨c, _, rfl, .inl (SqL.of hc), ?_⟩
      walk_at "ws"
      refine w_ite (fun e => ?_) (fun e => ?_)
      · have hlt : i < ns.length := by
          have := of_decide_eq_true e
          rw [List.length_map] at this
          exact this
        obtain ⟨cell, hcell⟩ : ∃ cell, ns[i.toNat]? = some cell := ⟨_, List.getElem?_eq_getElem (by omega)⟩
        walk_at "ws"
        refine r_ixL (SqL.of h) (v := .ref c) rfl ?_
        walk_at "ws"
        refine r_ixL (SqL.of h) (v := .int i) rfl ?_
        refine r_ixL (SqL.of hc) (v := .int cell) (at_of (j := i.toNat) (by omega) (by rw [List.getElem?_map, hcell]; rfl)) ?_
        walk_at "ws"
        refine r_ixL (SqL.of h) (v := .int i) rfl ?_
        walk_at "ws"
        refine st5 (j := 1) h rfl ?_
        walk_at "ws"
        refine r_ixL (SqL.of upd_same) (v := .int m) rfl ?_
        walk_at "ws"
        refine r_I (.inr ⟨by decide, by decide⟩) ?_
        walk_at "ws"
        refine .inl ⟨_, rfl, ?_⟩
        walk_at "ws"
        refine r_I (by decide) ?_
        walk_at "ws"
        refine st5 (j := 3) upd_same rfl ?_
        walk_at "ws"
        refine r_I ⟨by decide, by decide, by decide⟩ ?_
        walk_at "ws"
        refine w_ite (fun e => ?_) (fun e => ?_)
        · walk_at "ws"
          refine st5 (j := 2) upd_same rfl ?_
          refine kN _ _ ⟨_, _, _, _, _, rfl, fun a na => ?_, upd_same, by omega⟩
          rw [upd_ne na, upd_ne na, upd_ne na]
        · walk_at "ws"
          refine kN _ _ ⟨_, _, _, _, _, rfl, fun a na => ?_, upd_same, by omega⟩
          rw [upd_ne na, upd_ne na]
      · walk_at "ws"
        exact kN _ _ ⟨i, b, m, z, none, rfl, fun _ _ => rfl, h, hi⟩
    · walk_at "ws"
      exact kN _ _ ⟨i, b, m, z, none, rfl, fun _ _ => rfl, h, hi⟩
  · clear h hi
    rintro σ H1 ⟨i, b, m, z, x, rfl, hE, h, hi⟩
    walk_at "ws"
    refine r_ixL (SqL.of h) (v := .int b) rfl ?_
    walk_at "ws"
    refine w_ite (fun e => ?_) (fun e => ?_)
    · walk_at "ws"
      refine r_ixL (SqL.of h) (v := .int b) rfl ?_
      walk_at "ws"
      refine .inl ⟨_, rfl, ?_⟩
      walk_at "ws"
      refine r_I n0 ?_
      walk_at "ws"
      refine r_ixL (SqL.of h) (v := .int b) rfl ?_
      walk_at "ws"
      refine r_I ⟨n0, by omega⟩ ?_
      walk_at "ws"
      refine st5 (j := 2) h rfl ?_
      walk_at "ws"
      obtain ⟨g, hh2⟩ := G.at_hd hh (H' := upd H1 hd (.lst (([.ref c, .int i, .int b, .int m, .int z] : List V).set 2 (.int (b / n))))) (fun a na => by rw [upd_ne na]; exact hE a na) upd_same hi
      exact k _ _ (Int.emod_nonneg _ (by omega)) (Int.emod_lt_of_pos _ n0) g hh2
    · walk_at "ws"
      refine r_ixL (SqL.of h) (v := .int z) rfl ?_
      walk_at "ws"
      refine st5 (j := 4) h rfl ?_
      walk_at "ws"
      refine r_ixL (SqL.of upd_same) (v := .int m) rfl ?_
      walk_at "ws"
      refine r_ixL (SqL.of upd_same) (v := .int (z + 1)) rfl ?_
      refine r_I (.inl ⟨by decide, by decide⟩) ?_
      walk_at "ws"
      refine .inl ⟨_, rfl, ?_⟩
      walk_at "ws"
      refine r_I (.inr ⟨by decide, by decide⟩) ?_
      walk_at "ws"
      refine .inl ⟨_, rfl, ?_⟩
      walk_at "ws"
      refine r_I (by decide) ?_
      generalize e1 : (_ : Int) % 2147483647 = u1
      have b1 : 0 ≤ u1 ∧ u1 < 2147483647 := by omega
      walk_at "ws"
      refine r_I ⟨by decide, by decide⟩ ?_
      walk_at "ws"
      refine r_I (.inl ⟨by omega, by omega⟩) ?_
      walk_at "ws"
      refine .inl ⟨_, rfl, ?_⟩
      walk_at "ws"
      refine r_I (by decide) ?_
      generalize e2 : (_ : Int) % 2147483647 = u2
      have b2 : 0 ≤ u2 ∧ u2 < 2147483647 := by omega
      walk_at "ws"
      refine r_I ⟨by decide, by decide⟩ ?_
      walk_at "ws"
      refine r_I (.inl ⟨by omega, by omega⟩) ?_
      walk_at "ws"
      refine .inl ⟨_, rfl, ?_⟩
      walk_at "ws"
      refine r_I (by decide) ?_
      walk_at "ws"
      refine r_I ⟨by decide, by decide⟩ ?_
      walk_at "ws"
      refine .inl ⟨_, rfl, ?_⟩
      walk_at "ws"
      refine r_I n0 ?_
      obtain ⟨g, hh2⟩ := G.at_hd hh (H' := upd H1 hd (.lst (([.ref c, .int i, .int b, .int m, .int z] : List V).set 4 (.int (z + 1))))) (fun a na => by rw [upd_ne na]; exact hE a na) upd_same hi
      exact k _ _ (Int.emod_nonneg _ (by omega)) (Int.emod_lt_of_pos _ n0) g hh2

end
end Mine
/-! ## K7 -/


namespace Mine
section
variable {P : Program} {w : World} {K : PySem.W.Frag} {mg : Str → Option Value} {base : Heap} {a : Ads}

/-! ### _law_is of two that are alike -/
theorem dp_n {H H' : Hp} (g : G none H H') : (∀ (d : PyData) (v : V), Dp K H v d → Dp K H' v d) ∧ (∀ (ds : List PyData) (vs : List V), DpAll K H vs ds → DpAll K H' vs ds) := by
  have rd : ∀ {a u}, Rd H a u → Rd H' a u := fun h => h.elim (fun h => .inl (g.all _ _ h)) fun ⟨ob, h⟩ => .inr ⟨ob, g.all _ _ h⟩
  have sl : ∀ {a xs}, SqL K H a xs → SqL K H' a xs := fun h => h.elim (fun h => .inl (rd h)) .inr
  constructor
  · intro d v h
    refine Dp.rec (motive_1 := fun v d _ => Dp K H' v d) (motive_2 := fun vs ds _ => DpAll K H' vs ds) .non .bl .int .str ?_ ?_ ?_ ?_ h
    · intro a xs ds h1 _ h2; exact .lst (sl h1) h2
    · intro a xs ds h1 _ h2; exact .tup (sqT_t g.tups h1) h2
    · exact .nil
    · intro v vs d ds _ _ h1 h2; exact .cons h1 h2
  · intro ds vs h
    refine DpAll.rec (motive_1 := fun v d _ => Dp K H' v d) (motive_2 := fun vs ds _ => DpAll K H' vs ds) .non .bl .int .str ?_ ?_ ?_ ?_ h
    · intro a xs ds h1 _ h2; exact .lst (sl h1) h2
    · intro a xs ds h1 _ h2; exact .tup (sqT_t g.tups h1) h2
    · exact .nil
    · intro v vs d ds _ _ h1 h2; exact .cons h1 h2
theorem sqL_n {H H' : Hp} (g : G none H H') {p : Addr} {xs : List V} (h : SqL K H p xs) : SqL K H' p xs := by
  rcases h with (h | ⟨o, h⟩) | h
  · exact .inl (.inl (g.all _ _ h))
  · exact .inl (.inr ⟨o, g.all _ _ h⟩)
  · exact .inr h
theorem tyx_lst {H : Hp} {p : Addr} {xs : List V} (h : SqL K H p xs) : TyX K H (.ref p) (.type "list") := by
  rcases h with (h | ⟨o, h⟩) | ⟨o, its, n, h1, h2, _⟩
  · exact .base (.lst h)
  · exact .base (.frz h)
  · exact .kList h1 h2
def tyN : PyData → String
  | .none => "NoneType"
  | .bool _ => "bool"
  | .int _ => "int"
  | .str _ => "str"
  | .list _ => "list"
  | .tuple _ => "tuple"
  | .dict _ => "dict"
theorem ty_of {H : Hp} {v : V} {d : PyData} (h : Dp K H v d) : TyX K H v (.type (tyN d)) := by
  cases h with
  | non => exact .base .non
  | bl b => exact .base (.bl b)
  | int i => exact .base (.int i)
  | str x => exact .base (.str x)
  | lst h _ => exact tyx_lst h
  | tup h _ => exact tyx_tup h
def isTup : PyData → Bool | .tuple _ => true | _ => false
def isLst : PyData → Bool | .list _ => true | _ => false
def isBool : PyData → Bool | .bool _ => true | _ => false
theorem ki_tup (d : PyData) : PySem.W.kitOne K (.type (tyN d)) (.type "tuple") = some (isTup d) := by
  cases d with
  | none => exact kit_ty (a := "NoneType") (b := "tuple") (r := false) (by decide +kernel)
  | bool _ => exact kit_ty (a := "bool") (b := "tuple") (r := false) (by decide +kernel)
  | int _ => exact kit_ty (a := "int") (b := "tuple") (r := false) (by decide +kernel)
  | str _ => exact kit_ty (a := "str") (b := "tuple") (r := false) (by decide +kernel)
  | list _ => exact kit_ty (a := "list") (b := "tuple") (r := false) (by decide +kernel)
  | tuple _ => exact kit_ty (a := "tuple") (b := "tuple") (r := true) (by decide +kernel)
  | dict _ => exact kit_ty (a := "dict") (b := "tuple") (r := false) (by decide +kernel)
theorem ki_lst (d : PyData) : PySem.W.kitOne K (.type (tyN d)) (.type "list") = some (isLst d) := by
  cases d with
  | none => exact kit_ty (a := "NoneType") (b := "list") (r := false) (by decide +kernel)
  | bool _ => exact kit_ty (a := "bool") (b := "list") (r := false) (by decide +kernel)
  | int _ => exact kit_ty (a := "int") (b := "list") (r := false) (by decide +kernel)
  | str _ => exact kit_ty (a := "str") (b := "list") (r := false) (by decide +kernel)
  | list _ => exact kit_ty (a := "list") (b := "list") (r := true) (by decide +kernel)
  | tuple _ => exact kit_ty (a := "tuple") (b := "list") (r := false) (by decide +kernel)
  | dict _ => exact kit_ty (a := "dict") (b := "list") (r := false) (by decide +kernel)
theorem ki_bool (d : PyData) : PySem.W.kitOne K (.type (tyN d)) (.type "bool") = some (isBool d) := by
  cases d with
  | none => exact kit_ty (a := "NoneType") (b := "bool") (r := false) (by decide +kernel)
  | bool _ => exact kit_ty (a := "bool") (b := "bool") (r := true) (by decide +kernel)
  | int _ => exact kit_ty (a := "int") (b := "bool") (r := false) (by decide +kernel)
  | str _ => exact kit_ty (a := "str") (b := "bool") (r := false) (by decide +kernel)
  | list _ => exact kit_ty (a := "list") (b := "bool") (r := false) (by decide +kernel)
  | tuple _ => exact kit_ty (a := "tuple") (b := "bool") (r := false) (by decide +kernel)
  | dict _ => exact kit_ty (a := "dict") (b := "bool") (r := false) (by decide +kernel)
theorem ki_tl (d : PyData) : PySem.W.kitAny K (.type (tyN d)) [.type "tuple", .type "list"] = some (isTup d || isLst d) := by
  refine kitAny_cons (ki_tup d) (fun e => ?_) fun e => by rw [e]; rfl
  refine kitAny_cons (ki_lst d) (fun e2 => ?_) fun e2 => by rw [e, e2]; rfl
  rw [e, e2]; rfl
theorem r_isiT {H : Hp} {v : V} {d : PyData} {tp : Addr} {Q : VK} (h : H tp = some (.tup [.ty "tuple", .ty "list"])) (hd : Dp K H v d) (q : Q (.bl (isTup d || isLst d)) H) : rIsiT K [v, .ref tp] H Q :=
  ⟨v, tp, [.ty "tuple", .ty "list"], _, [.type "tuple", .type "list"], _, rfl, h, .cons (.ty "tuple") (.cons (.ty "list") .nil), ty_of hd, ki_tl d, q⟩
def scal1 : PyData → Prop
  | .none => True
  | .bool _ => True
  | .int _ => True
  | .str x => PyData.strOk x = true
  | _ => False
def okd : Nat → PyData → Prop
  | 0, d => scal1 d
  | n + 1, d => scal1 d ∨ ∃ ds, (d = .tuple ds ∨ d = .list ds) ∧ ds.length ≤ 100000 ∧ ∀ e ∈ ds, okd n e
theorem scal1_tl {d : PyData} (h : scal1 d) : (isTup d || isLst d) = false := by cases d <;> first | rfl | exact h.elim
theorem scal1_eqv {d : PyData} (h : scal1 d) : PyData.eqv d d = true := by
  cases d with
  | none => rfl
  | bool b => cases b <;> rfl
  | int i => simp [PyData.eqv]
  | str x => simp [PyData.eqv]
  | list _ => exact h.elim
  | tuple _ => exact h.elim
  | dict _ => exact h.elim
theorem scal1_sh {d : PyData} (h : scal1 d) : SeqAt.shaped d = true := by
  cases d <;> first | exact h.elim | (simp [SeqAt.shaped, PyData.canLay0, PyData.depth]; done) | (simp [SeqAt.shaped, PyData.canLay0, PyData.depth]; exact h)
theorem walk_zipT {p q : Addr} {xs ys : List V} {n : Nat} (hn : n = min xs.length ys.length) : Walk (RZ.ItzT K p q) n (fun H => SqT K H p xs ∧ SqT K H q ys) (YPair (fun i => xs[i]?) (fun i => ys[i]?)) := by
  subst hn
  refine ⟨fun i _ hi h => ?_, fun _ h => ⟨xs, ys, h.1, h.2, by omega⟩, fun i H v H' _ h y => ?_⟩
  · have h1 : i < xs.length := by omega
    have h2 : i < ys.length := by omega
    exact ⟨xs, ys, xs[i], ys[i], h.1, h.2, by simp [h1], by simp [h2]⟩
  · obtain ⟨T, x, z, h1, h2, h3, h4, h5⟩ := y
    exact ⟨T, x, z, h1, h2, h3, h4 xs h.1, h5 ys h.2⟩
theorem bools_true {H : Hp} {xs : List V} {n : Nat} (h : DpAll K H xs ((List.range n).filterMap fun _ => some (PyData.bool true))) : ∃ bs : List Bool, xs = bs.map V.bl ∧ bs.all id = true := by
  generalize List.range n = l at h
  induction l generalizing xs with
  | nil => cases h; exact ⟨[], rfl, rfl⟩
  | cons z l ih =>
    cases h with
    | cons h t =>
      obtain ⟨bs, rfl, e⟩ := ih t
      cases h
      exact ⟨true :: bs, rfl, by simpa using e⟩

end
end Mine
/-! ## K8 -/


namespace Mine
section
variable {P : Program} {w : World} {K : PySem.W.Frag} {mg : Str → Option Value} {base : Heap} {a : Ads}

/-! ### _law_flag, _law_web -/
def okP (m : Int) (u : Int × Int) : Prop := (0 ≤ u.1 ∧ u.1 < m) ∧ (0 ≤ u.2 ∧ u.2 < m) ∧ u.1 ≠ u.2
def ltP (u v : Int × Int) : Prop := u.1 < v.1 ∨ (u.1 = v.1 ∧ u.2 < v.2)
structure IsWeb (m : Int) (ws : List (Int × Int)) : Prop where
  lo : 1 ≤ m
  hi : m ≤ 7
  mem : ∀ u ∈ ws, (0 ≤ u.1 ∧ u.1 < m) ∧ (0 ≤ u.2 ∧ u.2 < m) ∧ u.1 ≠ u.2
  asc : ws.Pairwise ltP
/-- pairs whose tuples are known -/
def TupAll (H : Hp) (bs : List Addr) (ws : List (Int × Int)) : Prop := bs.length = ws.length ∧ ∀ (i : Nat) (b : Addr) (u : Int × Int), bs[i]? = some b → ws[i]? = some u → H b = some (.tup [.int u.1, .int u.2])
theorem TupAll.g {H H' : Hp} {bs : List Addr} {ws : List (Int × Int)} {o : Option (Addr × Addr)} (h : TupAll H bs ws) (g : G o H H') (hh : ∀ q, o = some q → Hand H q.1 q.2) : TupAll H' bs ws := ⟨h.1, fun i b u e1 e2 => by
  have q1 := h.2 i b u e1 e2
  refine g.keep b _ (fun q e => ?_) q1
  obtain ⟨_, _, _, _, _, _, z, _⟩ := hh q e
  exact ne_of q1 z (by intro z; cases z)⟩
theorem TupAll.put {H : Hp} {bs : List Addr} {ws : List (Int × Int)} {l : Addr} {xs : List V} {u : HO} (h : TupAll H bs ws) (hl : H l = some (.lst xs)) : TupAll (upd H l u) bs ws := ⟨h.1, fun i b w e1 e2 => by
  have q1 := h.2 i b w e1 e2
  rw [upd_ne (ne_of q1 hl (by intro z; cases z))]
  exact q1⟩
theorem TupAll.app {H : Hp} {bs : List Addr} {ws : List (Int × Int)} {t : Addr} {u : Int × Int} (h : TupAll H bs ws) (ht : H t = some (.tup [.int u.1, .int u.2])) : TupAll H (bs ++ [t]) (ws ++ [u]) := ⟨by simp [h.1], fun i b w e1 e2 => by
  by_cases c : i < bs.length
  · rw [List.getElem?_append_left c] at e1
    rw [List.getElem?_append_left (by rw [← h.1]; exact c)] at e2
    exact h.2 i b w e1 e2
  · rw [List.getElem?_append_right (by omega)] at e1
    rw [List.getElem?_append_right (by rw [← h.1]; omega), ← h.1] at e2
    cases q : i - bs.length with
    | zero =>
      rw [q] at e1 e2
      simp at e1 e2
      subst e1 e2
      exact ht
    | succ j =>
      rw [q] at e1
      simp at e1⟩
theorem new_back {H0 H1 : Hp} {hd c l : Addr} (g : G (some (hd, c)) H0 H1) (x : Hand H1 hd c) (h : H1 l = none) : H0 l = none := by
  cases e : H0 l with
  | none => rfl
  | some u =>
    have n : l ≠ hd := x.ne h
    rw [g.keep l u (fun p e => by cases e; exact n) e] at h
    cases h
theorem at4 {b0 b1 b2 b3 : Bool} {z : Int} (h0 : 0 ≤ z) (h1 : z ≤ 3) : ∃ b, atI [V.bl b0, V.bl b1, V.bl b2, V.bl b3] z = some (.bl b) := by
  have : z = 0 ∨ z = 1 ∨ z = 2 ∨ z = 3 := by omega
  rcases this with rfl | rfl | rfl | rfl
  · exact ⟨b0, rfl⟩
  · exact ⟨b1, rfl⟩
  · exact ⟨b2, rfl⟩
  · exact ⟨b3, rfl⟩
/-- some wires, all ahead of (y, x) -/
structure Part (m : Int) (ws : List (Int × Int)) (y x : Int) : Prop where
  mem : ∀ u ∈ ws, (0 ≤ u.1 ∧ u.1 < m) ∧ (0 ≤ u.2 ∧ u.2 < m) ∧ u.1 ≠ u.2
  asc : ws.Pairwise ltP
  lt : ∀ u ∈ ws, ltP u (y, x)
theorem Part.up {m y x y' x' : Int} {ws : List (Int × Int)} (h : Part m ws y x) (e : y < y' ∨ (y = y' ∧ x ≤ x')) : Part m ws y' x' := ⟨h.mem, h.asc, fun u hu => by
  have q := h.lt u hu
  simp only [ltP] at q ⊢
  omega⟩
theorem Part.app {m y x : Int} {ws : List (Int × Int)} (h : Part m ws y x) (h1 : 0 ≤ y ∧ y < m) (h2 : 0 ≤ x ∧ x < m) (h3 : y ≠ x) : Part m (ws ++ [(y, x)]) y (x + 1) := by
  refine ⟨fun u hu => ?_, ?_, fun u hu => ?_⟩
  · rcases List.mem_append.mp hu with z | z
    · exact h.mem u z
    · have : u = (y, x) := by simpa using z
      subst this; exact ⟨h1, h2, h3⟩
  · rw [List.pairwise_append]
    refine ⟨h.asc, List.pairwise_singleton _ _, fun u hu v hv => ?_⟩
    have : v = (y, x) := by simpa using hv
    subst this; exact h.lt u hu
  · rcases List.mem_append.mp hu with z | z
    · have q := h.lt u z
      simp only [ltP] at q ⊢
      omega
    · have e : u = (y, x) := by simpa using z
      rw [e]
      exact .inr ⟨rfl, by show x < x + 1; omega⟩
def sp__law_web (K : PySem.W.Frag) : Sp := fun vs H Q _ => ∃ (hd c : Addr) (m : Int), vs = [.ref hd, .int m] ∧ Hand H hd c ∧ 1 ≤ m ∧ m ≤ 7 ∧ ∀ p bs ws H', G (some (hd, c)) H H' → Hand H' hd c → SqT K H' p (bs.map V.ref) → TupAll H' bs ws → IsWeb m ws → Q (.ref p) H'
/-- the loops' word -/
def WebW (K : PySem.W.Frag) (H : Hp) (hd c l : Addr) (m y x : Int) (H' : Hp) : Prop := ∃ (bs : List Addr) (ws : List (Int × Int)), G (some (hd, c)) H H' ∧ Hand H' hd c ∧ H' l = some (.lst (bs.map V.ref)) ∧ TupAll H' bs ws ∧ Part m ws y x ∧ bs.length ≤ 10000
theorem part_len {m y x : Int} {ws : List (Int × Int)} (h : Part m ws y x) (hm : m ≤ 7) : ws.length ≤ 10000 := by
  have hn : (ws.map fun u => (u.1 * 7 + u.2).toNat).Nodup := by
    have : (ws.map fun u => (u.1 * 7 + u.2).toNat).Pairwise (· < ·) := by
      rw [List.pairwise_map]
      refine List.Pairwise.imp_of_mem (fun {u v} hu hv huv => ?_) h.asc
      have h1 := h.mem u hu
      have h2 := h.mem v hv
      unfold ltP at huv
      omega
    exact this.imp fun h => Nat.ne_of_lt h
  have hs : ∀ k ∈ (ws.map fun u => (u.1 * 7 + u.2).toNat), k ∈ List.range 10000 := by
    intro k hk
    obtain ⟨u, hu, rfl⟩ := List.mem_map.mp hk
    have h1 := h.mem u hu
    rw [List.mem_range]
    omega
  have := List.Nodup.length_le_of_subset hn hs
  simpa using this
theorem ok__law_web (T : Txt K mg a) : FnOk P w K mg base CX0 2 a.f__law_web a.d__law_web P__law_web (sp__law_web K) := by
  refine T.F__law_web.ok sc__law_web (fun vs H Q E h => by obtain ⟨hd, c, m, rfl, _⟩ := h; rfl) (fun cdv A outer s H vs Q E hr h => ?_)
  obtain ⟨hd, c, m, rfl, hh, m1, m7, k⟩ := h
  have G__law_draw : FnOk P w K mg base CX0 1 a.f__law_draw a.d__law_draw P__law_draw sp__law_draw := ok__law_draw T
  refine ⟨_, (pss_cons (ps_set (i := 2) sc__law_web.nd rfl (Or.inl rfl) (pe_call (G__law_draw) (hr.mono (by omega)) rfl T.m__law_draw T.F__law_draw.kp T.b__law_draw .nil pass0 (pa_cons (pv 0) (pa_cons pe_int pa_nil))))
  (pss_cons (ps_set (i := 3) sc__law_web.nd rfl (Or.inl rfl) (pe_lstN pa_nil))
  (pss_cons (ps_for PassesOwn.never rfl (pi_range1 rfl T.n_range (pa_cons (pv 1) pa_nil)) (pg_name (i := 4) sc__law_web.nd rfl (Or.inl rfl))
    (pss_one (ps_for PassesOwn.never rfl (pi_range1 rfl T.n_range (pa_cons (pv 1) pa_nil)) (pg_name (i := 5) sc__law_web.nd rfl (Or.inl rfl))
    (pss_cons (ps_set (i := 6) sc__law_web.nd rfl (Or.inl rfl) (pe_ix ix_list (pe_lstN (pa_cons pe_bl (pa_cons (pe_cmpR op_in_seq (pe_callB call_abs (by rfl) T.n_abs (by decide +kernel) (pa_cons (pe_op op_sub (pv 4) (pv 5)) pa_nil)) (pe_lstN (pa_cons pe_int (pa_cons (pe_op op_sub (pv 1) pe_int) pa_nil))) (by rfl)) (pa_cons (pe_cmpR op_eq (pe_callB call_abs (by rfl) T.n_abs (by decide +kernel) (pa_cons (pe_op op_sub (pv 4) (pv 5)) pa_nil)) pe_int (nomark _)) (pa_cons (pe_or (pe_cmpR op_eq (pv 4) pe_int (nomark _)) (pe_one (pe_cmpR op_eq (pv 5) pe_int (nomark _)))) pa_nil))))) (pe_callB (call_min2 rfl) (by rfl) T.n_min (by decide +kernel) (pa_cons (pv 2) (pa_cons pe_int pa_nil))) (fun _ _ => rfl)))
  (pss_cons (ps_if (pt_cmpR op_gt (pv 2) pe_int (nomark _))
    (pss_one (ps_set (i := 6) sc__law_web.nd rfl (Or.inl rfl) (pe_cmpR op_lt (pe_call (G__law_draw) (hr.mono (by omega)) rfl T.m__law_draw T.F__law_draw.kp T.b__law_draw .nil pass0 (pa_cons (pv 0) (pa_cons pe_int pa_nil))) (pe_op op_sub (pv 2) pe_int) (nomark _))))
    pss_nil)
  (pss_one (ps_if (L2.PW.pt (pw_and (pt_cmpR op_ne (pv 4) (pv 5) (nomark _)) (pw_and1 (pt_val (pv 6)))))
    (pss_one (ps_expr (pe_bm PySem.F.plainAttrs_list PySem.F.slot_list_append PySem.F.type_list_append mt_append (pv 3) (pa_cons (pe_tupN (pa_cons (pv 4) (pa_cons (pv 5) pa_nil))) pa_nil))))
    pss_nil)))))))
  (pss_one (ps_ret (pe_callTy call_tupleN (by rfl) T.n_tuple (by decide +kernel) (pa_cons (pv 3) pa_nil))))))), ?_⟩
  walk_at "ws"
  refine ⟨hd, c, 6, rfl, hh, by decide, by decide, fun kind H1 k0 k1 g1 hh1 => ?_⟩
  walk_at "ws"
  refine ⟨sz (by simp), fun l H2 hl g2 h2 => ?_⟩
  have l0 : H l = none := new_back g1 hh1 hl
  have nl : l ≠ hd := hh1.ne hl
  have g2 := g1.trans (g2 _)
  have hh2 := g2.hand _ rfl hh
  have offl : ∀ p, some (hd, c) = some p → l ≠ p.1 := fun p e => by cases e; exact nl
  walk_at "ws"
  refine i_rng1 (by omega) (by omega) ?_
  refine for_it walk_range (fun i σ H' => WebW K H hd c l m i 0 H' ∧ ∃ u v x, σ = [some (.ref hd), some (.int m), some (.int kind), some (.ref l), u, v, x]) ⟨⟨[], [], g2, hh2, h2, ⟨rfl, fun i b u e => by simp at e⟩, ⟨(fun _ h => nomatch h), .nil, (fun _ h => nomatch h)⟩, Nat.zero_le _⟩, _, _, _, rfl⟩ (fun _ _ _ _ _ => trivial) ?_ ?_
  · rintro y _ σ _ H3 hy ⟨hW, u, v, x, rfl⟩ ⟨rfl, rfl⟩
    walk_at "ws"
    refine i_rng1 (by omega) (by omega) ?_
    refine for_it walk_range (fun i σ H' => WebW K H hd c l m y i H' ∧ ∃ v x, σ = [some (.ref hd), some (.int m), some (.int kind), some (.ref l), some (.int (0 + (y : Int))), v, x]) ⟨hW, _, _, rfl⟩ (fun _ _ _ _ _ => trivial) ?_ ?_
    · rintro x _ σ _ H4 hx ⟨⟨ls, ws, g4, hh4, h4, hd4, hp, hz⟩, v, x', rfl⟩ ⟨rfl, rfl⟩
      refine w_seqM (fun σ H' => ∃ b : Bool, σ = [some (.ref hd), some (.int m), some (.int kind), some (.ref l), some (.int (0 + (y : Int))), some (.int (0 + (x : Int))), some (.bl b)] ∧ G (some (hd, c)) H4 H') (fun N kN => ?_) ?_
      · walk_at "ws"
        refine ⟨_, rfl, ?_⟩
        walk_at "ws"
        refine ⟨sz (by simp), fun q H5 hq g5 h5 => ?_⟩
        refine ⟨q, _, rfl, .inl (SqL.of h5), rfl, rfl, ?_⟩
        walk_at "ws"
        refine ⟨_, rfl, ?_⟩
        walk_at "ws"
        refine w_ite (fun e => ?_) (fun e => ?_) <;>
        · walk_at "ws"
          refine ⟨sz (by simp), fun p H6 hp g6 h6 => ?_⟩
          walk_at "ws"
          refine ⟨_, _, rfl, ?_⟩
          refine r_ixL (SqL.of h6) (at4 (by split <;> omega) (by split <;> omega)).choose_spec ?_
          walk_at "ws"
          exact kN _ _ ⟨_, rfl, (g5 _).trans (g6 _)⟩
      · rintro σ H5 ⟨b, rfl, g5⟩
        have hh5 := g5.hand _ rfl hh4
        refine w_seqM (fun σ H' => ∃ b : Bool, σ = [some (.ref hd), some (.int m), some (.int kind), some (.ref l), some (.int (0 + (y : Int))), some (.int (0 + (x : Int))), some (.bl b)] ∧ G (some (hd, c)) H4 H') (fun N kN => ?_) ?_
        · walk_at "ws"
          refine w_ite (fun e => ?_) (fun e => ?_)
          · walk_at "ws"
            refine ⟨hd, c, 4, rfl, hh5, by decide, by decide, fun r H6 r0 r1 g6 hh6 => ?_⟩
            walk_at "ws"
            exact kN _ _ ⟨_, rfl, g5.trans g6⟩
          · walk_at "ws"
            exact kN _ _ ⟨_, rfl, g5⟩
        · clear g5 hh5
          rintro σ H5 ⟨b, rfl, g5⟩
          have hh5 := g5.hand _ rfl hh4
          have h5 := g5.keep l _ offl h4
          have hd5 := hd4.g g5 (fun p e => by cases e; exact hh4)
          have g05 := g4.trans g5
          have done : WebW K H hd c l m y ((x : Int) + 1) H5 := ⟨ls, ws, g05, hh5, h5, hd5, hp.up (by omega), hz⟩
          walk_at "ws"
          refine w_ite (fun e => ?_) (fun e => ?_)
          · walk_at "ws"
            refine w_ite (fun eb => ?_) (fun eb => ?_)
            · walk_at "ws"
              refine i_BM h5 ?_
              walk_at "ws"
              refine ⟨sz (by simp), fun t H6 ht g6 h6 => ?_⟩
              have h6l := (g6 none).all _ _ h5
              have hd6 := hd5.g (g6 none) (fun _ e => nomatch e)
              walk_at "ws"
              refine r_app h6l (by rw [List.length_map]; omega) ?_
              walk_at "ws"
              have g06 := g05.trans (g6 _)
              have g07 : G (some (hd, c)) H (upd H6 l (.lst (ls.map V.ref ++ [.ref t]))) := g06.mut l0 (fun p e => by cases e; exact hh)
              have hp' := hp.app (y := y) (x := x) (by omega) (by omega) (by
                have := e
                simp at this
                omega)
              have hdt : H6 t = some (.tup [.int (y : Int), .int (x : Int)]) := by
                have z := h6
                simp only [Int.zero_add] at z
                exact z
              refine ⟨⟨ls ++ [t], ws ++ [((y : Int), (x : Int))], g07, g07.hand _ rfl hh, by rw [upd_same, List.map_append]; rfl, ?_, hp', ?_⟩, _, _, rfl⟩
              · exact (hd6.app (u := ((y : Int), (x : Int))) hdt).put h6l
              · have l1 := part_len hp' m7
                have l2 := hd6.1
                simp only [List.length_append, List.length_singleton] at l1 l2 ⊢
                omega
            · walk_at "ws"
              exact ⟨done, _, _, rfl⟩
          · walk_at "ws"
            exact ⟨done, _, _, rfl⟩
    · rintro σ H4 ⟨⟨ls, ws, g4, hh4, h4, hd4, hp, hz⟩, v, x', rfl⟩
      exact ⟨⟨ls, ws, g4, hh4, h4, hd4, hp.up (by omega), hz⟩, _, _, _, rfl⟩
  · rintro σ H4 ⟨⟨ls, ws, g4, hh4, h4, hd4, hp, hz⟩, u, v, x', rfl⟩
    walk_at "ws"
    refine ⟨l, _, rfl, .inl ⟨SqL.of h4, fun p H5 hp5 g5 h5 => ?_⟩⟩
    exact k p ls ws H5 (g4.trans (g5 _)) ((g5 (some (hd, c))).hand (hd, c) rfl hh4) (SqT.of h5) (hd4.g (g5 none) fun _ e => nomatch e) ⟨m1, m7, hp.mem, hp.asc⟩

end
end Mine
/-! ## K8b -/


namespace Mine
section
variable {P : Program} {w : World} {K : PySem.W.Frag} {mg : Str → Option Value} {base : Heap} {a : Ads}

/-! ### webs, right ones -/
def sp_is_unlike_pair (K : PySem.W.Frag) : Sp := fun vs H Q _ => ∃ (b : Int) (p : Addr) (i j : Int), vs = [.int b, .ref p] ∧ SqT K H p [.int i, .int j] ∧ ∀ H', G none H H' → Q (.bl (inB b i && inB b j && !decide (i = j))) H'
theorem ok_is_unlike_pair (T : Txt K mg a) : FnOk P w K mg base CX0 5 a.f_is_unlike_pair a.d_is_unlike_pair P_is_unlike_pair (sp_is_unlike_pair K) := by
  refine T.F_is_unlike_pair.ok sc_is_unlike_pair (fun vs H Q E h => by obtain ⟨b, p, i, j, rfl, _⟩ := h; rfl) (fun cdv A outer s H vs Q E hr h => ?_)
  obtain ⟨b, p, i, j, rfl, hx, k⟩ := h
  have G_is_tuple_of : FnOk P w K mg base CX0 1 a.f_is_tuple_of a.d_is_tuple_of P_is_tuple_of (sp_is_tuple_of K) := ok_is_tuple_of T
  have G_are_below : FnOk P w K mg base CX0 4 a.f_are_below a.d_are_below P_are_below (sp_are_below K) := ok_are_below T
  refine ⟨_, (pss_one (ps_ret (pe_and (pe_call (G_is_tuple_of) (hr.mono (by omega)) rfl T.m_is_tuple_of T.F_is_tuple_of.kp T.b_is_tuple_of .nil pass0 (pa_cons pe_int (pa_cons pe_int (pa_cons (pv 1) pa_nil)))) (pe_and (pe_call (G_are_below) (hr.mono (by omega)) rfl T.m_are_below T.F_are_below.kp T.b_are_below .nil pass0 (pa_cons (pv 0) (pa_cons (pv 1) pa_nil))) (pe_one (pe_cmpR op_ne (pe_ix ix_tup (pv 1) pe_int (fun _ _ => rfl)) (pe_ix ix_tup (pv 1) pe_int (fun _ _ => rfl)) (nomark _))))))), ?_⟩
  walk_at "ws"
  refine ⟨_, _, _, _, rfl, hx, ?_⟩
  walk_at "ws"
  refine w_iteE rfl ?_
  walk_at "ws"
  refine ⟨b, p, [i, j], rfl, hx, (by show 2 ≤ 100000; decide), fun H1 g1 => ?_⟩
  have e1 : ([i, j] : List Int).all (inB b) = (inB b i && inB b j) := by simp
  rw [e1]
  walk_at "ws"
  refine w_ite (fun e => ?_) (fun e => ?_)
  · walk_at "ws"
    have hx1 := sqT_t g1.tups hx
    refine r_ixT hx1 (v := .int i) rfl ?_
    walk_at "ws"
    refine r_ixT hx1 (v := .int j) rfl ?_
    walk_at "ws"
    have k := k H1 g1
    rw [e] at k
    exact k
  · have k := k H1 g1
    rw [e] at k
    exact k

def sp_first_wrong_wire (K : PySem.W.Frag) : Sp := fun vs H Q _ => ∃ (m : Int) (p : Addr) (ws : List (Int × Int)), vs = [.int m, .ref p] ∧ Dp K H (.ref p) (dW ws) ∧ IsWeb m ws ∧ ∀ H', G none H H' → Q .non H'
theorem le_pair {i j k l : Int} : Ob.lexAt (fun n => decide (([i, j] : List Int).getD n 0 = ([k, l] : List Int).getD n 0)) (fun n => decide (([i, j] : List Int).getD n 0 ≤ ([k, l] : List Int).getD n 0)) (decide (([i, j] : List Int).length ≤ ([k, l] : List Int).length)) 0 (min ([i, j] : List Int).length ([k, l] : List Int).length) = decide (i < k ∨ (i = k ∧ j ≤ l)) := by
  show (if decide (i = k) = true then (if decide (j = l) = true then true else decide (j ≤ l)) else decide (i ≤ k)) = _
  by_cases h1 : i = k
  · subst h1
    by_cases h2 : j = l
    · subst h2; simp
    · simp [h2]
  · have e : decide (i ≤ k) = decide (i < k) := by simp only [decide_eq_decide]; omega
    simp [h1, e]
theorem ok_first_wrong_wire (T : Txt K mg a) : FnOk P w K mg base CX0 6 a.f_first_wrong_wire a.d_first_wrong_wire P_first_wrong_wire (sp_first_wrong_wire K) := by
  refine T.F_first_wrong_wire.ok sc_first_wrong_wire (fun vs H Q E h => by obtain ⟨m, p, ws, rfl, _⟩ := h; rfl) (fun cdv A outer s H vs Q E hr h => ?_)
  obtain ⟨m, p, ws, rfl, hx, hw, k⟩ := h
  have G_is_unlike_pair : FnOk P w K mg base CX0 5 a.f_is_unlike_pair a.d_is_unlike_pair P_is_unlike_pair (sp_is_unlike_pair K) := ok_is_unlike_pair T
  obtain ⟨p', xs, ep, hxs, hds⟩ := dp_tup hx
  cases ep
  refine ⟨_, (pss_cons (ps_for PassesOwn.never rfl (pi_enumT (by rfl) T.n_enumerate (pa_cons (pv 1) pa_nil)) (pg_tup rfl (pgs_cons (pg_name (i := 2) sc_first_wrong_wire.nd rfl (Or.inl rfl)) (pgs_cons (pg_name (i := 3) sc_first_wrong_wire.nd rfl (Or.inl rfl)) pgs_nil)))
    (pss_cons (ps_if (pt_not (pt_val (pe_call (G_is_unlike_pair) (hr.mono (by omega)) rfl T.m_is_unlike_pair T.F_is_unlike_pair.kp T.b_is_unlike_pair .nil pass0 (pa_cons (pv 0) (pa_cons (pv 3) pa_nil)))))
    (pss_one (ps_ret (pv 2)))
    pss_nil)
  (pss_one (ps_if (L2.PW.pt (pw_and (pt_cmpR op_gt (pv 2) pe_int (nomark _)) (pw_and1 (pt_cmpR (op_leT hr.units0) (pv 3) (pe_ix ix_tup (pv 1) (pe_op op_sub (pv 2) pe_int) (fun _ _ => rfl)) (nomark _)))))
    (pss_one (ps_ret (pv 2)))
    pss_nil))))
  (pss_one (ps_ret pe_non))), ?_⟩
  walk_at "ws"
  refine i_enum hxs ?_
  refine for_it (walk_enumT (xs := xs)) (fun i σ H1 => G none H H1 ∧ ∃ u v, σ = [some (.int m), some (.ref p), u, v]) ⟨G.refl, _, _, rfl⟩ (fun i σ H1 _ h => sqT_t h.1.tups hxs) ?_ ?_
  · rintro i x σ H1 H2 hi ⟨g1, u, v, rfl⟩ ⟨t, y, z, rfl, ht, rfl, ey, ez⟩
    cases Option.some.inj ey
    have g2 : G none H1 (upd H1 t (.tup [.int (i : Nat), z])) := G.alloc ht
    refine ⟨t, _, rfl, SqT.of upd_same, rfl, ?_⟩
    refine ⟨_, _, rfl, ?_⟩
    walk_at "ws"
    refine ⟨_, _, rfl, ?_⟩
    walk_at "ws"
    refine ⟨rfl, ?_⟩
    generalize upd H1 t (.tup [.int (i : Nat), z]) = H2 at g2 ⊢
    have g02 := g1.trans g2
    obtain ⟨d, hd, hz⟩ := DpAll.get hds ez
    rw [List.getElem?_map] at hd
    obtain ⟨w0, hw0, rfl⟩ := Option.map_eq_some_iff.mp hd
    obtain ⟨q, rfl, hq⟩ := dp_dP hz
    have hm := hw.mem w0 (List.mem_of_getElem? hw0)
    walk_at "ws"
    refine ⟨m, q, w0.1, w0.2, rfl, sqT_t g02.tups hq, fun H3 g3 => ?_⟩
    have g03 := g02.trans g3
    have e1 : (inB m w0.1 && inB m w0.2 && !decide (w0.1 = w0.2)) = true := by
      simp only [inB, Bool.and_eq_true, decide_eq_true_eq, Bool.not_eq_true', decide_eq_false_iff_not]
      omega
    rw [e1]
    walk_at "ws"
    refine w_ite (fun e => ?_) (fun e => ?_)
    · walk_at "ws"
      have hi0 : 0 < i := by simpa using e
      obtain ⟨v1, hv1⟩ : ∃ v1, xs[i - 1]? = some v1 := ⟨_, List.getElem?_eq_getElem (show i - 1 < xs.length by omega)⟩
      obtain ⟨d1, hd1, hz1⟩ := DpAll.get hds hv1
      rw [List.getElem?_map] at hd1
      obtain ⟨w1, hw1, rfl⟩ := Option.map_eq_some_iff.mp hd1
      obtain ⟨q1, rfl, hq1⟩ := dp_dP hz1
      have ei : ((i : Nat) : Int) - 1 = ((i - 1 : Nat) : Int) := by omega
      rw [ei]
      refine r_ixT (sqT_t g03.tups hxs) (atI_nat hv1) ?_
      refine ⟨q, q1, [w0.1, w0.2], [w1.1, w1.2], rfl, rfl, sqT_t g03.tups hq, sqT_t g03.tups hq1, ?_⟩
      rw [le_pair]
      walk_at "ws"
      have hlt : ltP w1 w0 := by
        obtain ⟨l1, e1⟩ := List.getElem?_eq_some_iff.mp hw1
        obtain ⟨l0, e0⟩ := List.getElem?_eq_some_iff.mp hw0
        have := List.pairwise_iff_getElem.mp hw.asc (i - 1) i l1 l0 (by omega)
        rw [e1, e0] at this
        exact this
      have e2 : decide (w0.1 < w1.1 ∨ w0.1 = w1.1 ∧ w0.2 ≤ w1.2) = false := by
        rw [decide_eq_false_iff_not]
        unfold ltP at hlt
        omega
      rw [e2]
      walk_at "ws"
      exact ⟨g03, _, _, rfl⟩
    · walk_at "ws"
      exact ⟨g03, _, _, rfl⟩
  · rintro σ H1 ⟨g1, u, v, rfl⟩
    walk_at "ws"
    exact k _ g1

/-! ### a web as an instance -/
theorem mw_ : ¬ (("machines" : Str) = "wires") := by decide +kernel
theorem wm_ : ¬ (("wires" : Str) = "machines") := by decide +kernel
def wf (m wa : V) : List (Str × V) := [("machines", m), ("wires", wa)]
theorem wf_m (m wa : V) : (wf m wa).lookup ("machines" : Str) = some m := by simp [wf, List.lookup]
theorem wf_w (m wa : V) : (wf m wa).lookup ("wires" : Str) = some wa := by
  have e : (("wires" : Str) == "machines") = false := by simpa using wm_
  simp [wf, List.lookup, e]
theorem put0 (m : V) : putF "machines" m [] = [(("machines" : Str), m)] := rfl
theorem put1 (m wa : V) : putF "wires" wa [(("machines" : Str), m)] = wf m wa := by
  show (if ("machines" : Str) = "wires" then _ else (("machines" : Str), m) :: putF "wires" wa []) = _
  rw [if_neg mw_]; rfl
theorem put_m (m n wa : V) : putF "machines" n (wf m wa) = wf n wa := by
  show (if ("machines" : Str) = "machines" then (("machines" : Str), n) :: [(("wires" : Str), wa)] else _) = _
  rw [if_pos rfl]; rfl
theorem put_w (m wa wb : V) : putF "wires" wb (wf m wa) = wf m wb := by
  show (if ("machines" : Str) = "wires" then _ else (("machines" : Str), m) :: (if ("wires" : Str) = "wires" then (("wires" : Str), wb) :: [] else _)) = _
  rw [if_neg mw_, if_pos rfl]; rfl
/-- a web stands at x -/
def WebAt (K : PySem.W.Frag) (C : Addr) (H : Hp) (x : Addr) (m : Int) (ws : List (Int × Int)) : Prop := ∃ (dx wa : Addr), H x = some (.ins C dx (wf (.int m) (.ref wa))) ∧ Dp K H (.ref wa) (dW ws)
theorem WebAt.g {C x hd c : Addr} {m : Int} {ws : List (Int × Int)} {H H' : Hp} (h : WebAt K C H x m ws) (g : G (some (hd, c)) H H') (hh : Hand H hd c) : WebAt K C H' x m ws := by
  obtain ⟨dx, wa, h1, h2⟩ := h
  exact ⟨dx, wa, g.keep x _ (off_ins hh h1) h1, dp_t g.tups _ _ (nl_dW ws) h2⟩
theorem WebAt.n {C x : Addr} {m : Int} {ws : List (Int × Int)} {H H' : Hp} (h : WebAt K C H x m ws) (g : G none H H') : WebAt K C H' x m ws := by
  obtain ⟨dx, wa, h1, h2⟩ := h
  exact ⟨dx, wa, g.all x _ h1, dp_t g.tups _ _ (nl_dW ws) h2⟩
def sp_Web_init (K : PySem.W.Frag) (C : Addr) : Sp := fun vs H Q _ => ∃ (x dx : Addr) (m : Int) (p : Addr) (ws : List (Int × Int)), vs = [.ref x, .int m, .ref p] ∧ H x = some (.ins C dx []) ∧ Dp K H (.ref p) (dW ws) ∧ IsWeb m ws ∧
  ∀ H', (∀ b u, b ≠ x → H b = some u → H' b = some u) → Ts H H' → H' x = some (.ins C dx (wf (.int m) (.ref p))) → Q .non H'
theorem ok_Web_init (T : Txt K mg a) : FnOk P w K mg base CX0 7 a.f_Web_init a.d_Web_init P_Web_init (sp_Web_init K a.c_Web) := by
  refine T.F_Web_init.ok sc_Web_init (fun vs H Q E h => by obtain ⟨x, dx, m, p, ws, rfl, _⟩ := h; rfl) (fun cdv A outer s H vs Q E hr h => ?_)
  obtain ⟨x, dx, m, p, ws, rfl, hxi, hx, hw, k⟩ := h
  have G_is_between : FnOk P w K mg base CX0 2 a.f_is_between a.d_is_between P_is_between sp_is_between := ok_is_between T
  have G_first_wrong_wire : FnOk P w K mg base CX0 6 a.f_first_wrong_wire a.d_first_wrong_wire P_first_wrong_wire (sp_first_wrong_wire K) := ok_first_wrong_wire T
  obtain ⟨p', xs, ep, hxs, hds⟩ := dp_tup hx
  cases ep
  refine ⟨_, (pss_cons (ps_if (pt_not (pt_val (pe_call (G_is_between) (hr.mono (by omega)) rfl T.m_is_between T.F_is_between.kp T.b_is_between .nil pass0 (pa_cons pe_int (pa_cons (pe_glob (v := .int 7) rfl T.m_MOST_MACHINES ⟨_, rfl⟩) (pa_cons (pv 1) pa_nil))))))
    pss_never
    pss_nil)
  (pss_cons (ps_if (pt_not (pt_val (pe_callB call_isi (by rfl) T.n_isinstance (by decide +kernel) (pa_cons (pv 2) (pa_cons (pe_bltn (v := .ty "tuple") (u := .type "tuple") rfl T.n_tuple (by decide +kernel) rfl) pa_nil)))))
    pss_never
    pss_nil)
  (pss_cons (ps_set (i := 3) sc_Web_init.nd rfl (Or.inl rfl) (pe_call (G_first_wrong_wire) (hr.mono (by omega)) rfl T.m_first_wrong_wire T.F_first_wrong_wire.kp T.b_first_wrong_wire .nil pass0 (pa_cons (pv 1) (pa_cons (pv 2) pa_nil))))
  (pss_cons (ps_if (pt_cmp (pc_notN (pv 3)))
    pss_never
    pss_nil)
  (pss_cons (ps_fld (pv 0) (pv 1) rfl)
  (pss_one (ps_fld (pv 0) (pv 2) rfl))))))), ?_⟩
  walk_at "ws"
  refine ⟨_, _, _, rfl, ?_⟩
  have e1 : (decide ((1 : Int) ≤ m) && decide (m ≤ 7)) = true := by
    have := hw.lo
    have := hw.hi
    simp; omega
  rw [e1]
  walk_at "ws"
  refine r_isi (tyx_tup hxs) ki_tt ?_
  walk_at "ws"
  refine ⟨m, p, ws, rfl, hx, hw, fun H1 g1 => ?_⟩
  walk_at "ws"
  refine w_iteN (by decide) ?_
  walk_at "ws"
  have h1 := g1.all _ _ hxi
  refine r_sfld h1 T.cl_Web T.na_Web_machines (by show 0 < 1000; decide) ?_
  walk_at "ws"
  refine r_sfld upd_same T.cl_Web T.na_Web_wires (by rw [put0]; show 1 < 1000; decide) ?_
  rw [put0, put1]
  refine k _ (fun b u n e => ?_) ?_ upd_same
  · rw [upd_ne n, upd_ne n]; exact g1.all _ _ e
  · exact (g1.tups.trans (ts_updI h1)).trans (ts_updI upd_same)

theorem web_new {C : Addr} {H1 : Hp} {m : Int} {p : Addr} {ws : List (Int × Int)} {F : Addr → Hp → Prop} {E : XK} (hd : Dp K H1 (.ref p) (dW ws)) (hw : IsWeb m ws) (q : ∀ x H2, H1 x = none → (∀ o, G o H1 H2) → WebAt K C H2 x m ws → F x H2) :
    ∀ x dx, H1 x = none → H1 dx = none → dx ≠ x → sp_Web_init K C (.ref x :: ([.int m, .ref p] ++ [])) (upd (upd H1 dx (.own x)) x (.ins C dx [])) (fun v H2 => v = .non ∧ F x H2) E := by
  intro x dx hx hdx nex
  have hxi : (upd (upd H1 dx (.own x)) x (.ins C dx [])) x = some (.ins C dx []) := upd_same
  have k12 : ∀ a u, H1 a = some u → (upd (upd H1 dx (.own x)) x (.ins C dx [])) a = some u := fun a u e => by
    rw [upd_ne (ne_of_none e hx), upd_ne (ne_of_none e hdx)]; exact e
  have t12 : Ts H1 (upd (upd H1 dx (.own x)) x (.ins C dx [])) := (G.of_all (o := none) k12).tups
  refine ⟨x, dx, m, p, ws, rfl, hxi, dp_t t12 _ _ (nl_dW ws) hd, hw, fun H2 k2 t2 h2 => ⟨rfl, ?_⟩⟩
  exact q x H2 hx (fun _ => G.of_all fun a u e => k2 a u (ne_of_none e hx) (k12 a u e)) ⟨dx, p, h2, dp_t (t12.trans t2) _ _ (nl_dW ws) hd⟩


theorem tupAll_dp {H : Hp} {p : Addr} : ∀ {bs : List Addr} {ws : List (Int × Int)}, TupAll H bs ws → DpAll K H (bs.map V.ref) (ws.map dP)
  | [], [], _ => .nil
  | b :: bs, u :: ws, h => .cons (dp_ofP (SqT.of (h.2 0 b u rfl rfl))) (tupAll_dp (p := p) ⟨by simpa using h.1, fun i b u e1 e2 => h.2 (i + 1) b u (by simpa using e1) (by simpa using e2)⟩)
  | [], _ :: _, h => by simp [TupAll] at h
  | _ :: _, [], h => by simp [TupAll] at h

end
end Mine
/-! ## KP -/
end
namespace Mine
/-! ### ways of wires -/
inductive Reach (ws : List (Int × Int)) : Int → Int → Prop where
  | refl (y : Int) : Reach ws y y
  | step {y z x : Int} : Reach ws y z → (z, x) ∈ ws → Reach ws y x
theorem Reach.trans {ws : List (Int × Int)} {y z x : Int} (h : Reach ws y z) (h' : Reach ws z x) : Reach ws y x := by
  induction h' with
  | refl => exact h
  | step _ e ih => exact .step ih e
theorem Reach.one {ws : List (Int × Int)} {y x : Int} (h : (y, x) ∈ ws) : Reach ws y x := .step (.refl y) h
/-- by way of machines below k alone -/
inductive Via (ws : List (Int × Int)) (k : Int) : Int → Int → Prop where
  | refl (y : Int) : Via ws k y y
  | one {y x : Int} : (y, x) ∈ ws → Via ws k y x
  | mid {y z x : Int} : z < k → Via ws k y z → Via ws k z x → Via ws k y x
theorem Via.up {ws : List (Int × Int)} {k : Int} {y x : Int} (h : Via ws (k + 1) y x) : Via ws k y x ∨ (Via ws k y k ∧ Via ws k k x) := by
  induction h with
  | refl y => exact .inl (.refl y)
  | one e => exact .inl (.one e)
  | mid hz _ _ h1 h2 =>
    rename_i y z x _ _
    by_cases e : z = k
    · subst e
      have a : Via ws z y z := by rcases h1 with h | h; exact h; exact h.1
      have b : Via ws z z x := by rcases h2 with h | h; exact h; exact h.2
      exact .inr ⟨a, b⟩
    · have hz' : z < k := by omega
      rcases h1 with h1 | h1
      · rcases h2 with h2 | h2
        · exact .inl (.mid hz' h1 h2)
        · exact .inr ⟨.mid hz' h1 h2.1, h2.2⟩
      · rcases h2 with h2 | h2
        · exact .inr ⟨h1.1, .mid hz' h1.2 h2⟩
        · exact .inr ⟨h1.1, h2.2⟩
theorem Reach.via {ws : List (Int × Int)} {m : Int} (hm : ∀ u ∈ ws, u.1 < m ∧ u.2 < m) {y x : Int} (h : Reach ws y x) : Via ws m y x := by
  induction h with
  | refl => exact .refl _
  | step _ e ih => exact .mid (hm _ e).1 ih (.one e)

/-! ### what is found on the way -/
structure Fnd (m : Int) (ws : List (Int × Int)) (y : Int) (ks ls : List Int) : Prop where
  nd : ks.Nodup
  rng : ∀ k ∈ ks, 0 ≤ k ∧ k < m
  reach : ∀ k ∈ ks, Reach ws y k
  sub : ∀ k ∈ ls, k ∈ ks
  begin_ : y ∈ ks
theorem Fnd.len {m : Int} {ws : List (Int × Int)} {y : Int} {ks ls : List Int} (h : Fnd m ws y ks ls) (hm : m ≤ 7) : ks.length ≤ 7 := by
  have := List.Nodup.length_le_of_subset (l₂ := (List.range 7).map fun i => ((i : Nat) : Int)) h.nd fun k hk => by
    have := h.rng k hk
    exact List.mem_map.mpr ⟨k.toNat, List.mem_range.mpr (by omega), by omega⟩
  simpa using this
/-- all ways out of those that are done are taken -/
def Shut (ws : List (Int × Int)) (ks ls : List Int) : Prop := ∀ k ∈ ks, k ∈ ls ∨ ∀ z, (k, z) ∈ ws → z ∈ ks
theorem Fnd.all {m : Int} {ws : List (Int × Int)} {y : Int} {ks : List Int} (h : Fnd m ws y ks []) (c : Shut ws ks []) (z : Int) : z ∈ ks ↔ Reach ws y z := by
  refine ⟨h.reach z, fun r => ?_⟩
  induction r with
  | refl => exact h.begin_
  | step _ e ih =>
    rcases c _ ih with q | q
    · exact absurd q (by simp)
    · exact q _ e
/-- within the turn of one machine: the wires of the first i are looked at -/
structure Trn (m : Int) (ws : List (Int × Int)) (y : Int) (ks0 ls0 : List Int) (here : Int) (i : Nat) (ks ls : List Int) : Prop where
  f : Fnd m ws y ks ls
  shut : ∀ k ∈ ks, k ∈ ls ∨ k = here ∨ ∀ z, (k, z) ∈ ws → z ∈ ks
  seen : ∀ (j : Nat) (x : Int), j < i → ws[j]? = some (here, x) → x ∈ ks
  cnt : ls.length + ks0.length = ls0.length + ks.length
  more : ks0.length ≤ ks.length
  at_ : here ∈ ks
theorem Trn.skip {m : Int} {ws : List (Int × Int)} {y : Int} {ks0 ls0 : List Int} {here : Int} {i : Nat} {ks ls : List Int} (h : Trn m ws y ks0 ls0 here i ks ls) {u : Int × Int} (hu : ws[i]? = some u) (c : u.1 = here → u.2 ∈ ks) : Trn m ws y ks0 ls0 here (i + 1) ks ls :=
  ⟨h.f, h.shut, fun j x hj e => by
    by_cases c2 : j = i
    · subst c2
      rw [hu] at e
      cases e
      exact c rfl
    · exact h.seen j x (by omega) e, h.cnt, h.more, h.at_⟩
theorem Trn.add {m : Int} {ws : List (Int × Int)} {y : Int} {ks0 ls0 : List Int} {here : Int} {i : Nat} {ks ls : List Int} (h : Trn m ws y ks0 ls0 here i ks ls) {u : Int × Int} (hu : ws[i]? = some u) (c : u.1 = here) (n : u.2 ∉ ks) (hr : 0 ≤ u.2 ∧ u.2 < m) :
    Trn m ws y ks0 ls0 here (i + 1) (ks ++ [u.2]) (ls ++ [u.2]) := by
  have hm : u ∈ ws := List.mem_of_getElem? hu
  refine ⟨⟨?_, ?_, ?_, ?_, List.mem_append_left _ h.f.begin_⟩, ?_, ?_, ?_, ?_, List.mem_append_left _ h.at_⟩
  · rw [List.nodup_append]
    exact ⟨h.f.nd, by simp, fun a ha b hb => by
      have e : b = u.2 := by simpa using hb
      rw [e]; intro e2; exact n (e2 ▸ ha)⟩
  · intro k hk
    rcases List.mem_append.mp hk with z | z
    · exact h.f.rng k z
    · have e : k = u.2 := by simpa using z
      rw [e]; exact hr
  · intro k hk
    rcases List.mem_append.mp hk with z | z
    · exact h.f.reach k z
    · have e : k = u.2 := by simpa using z
      rw [e]
      refine .step (h.f.reach here h.at_) ?_
      rw [← c]; exact hm
  · intro k hk
    rcases List.mem_append.mp hk with z | z
    · exact List.mem_append_left _ (h.f.sub k z)
    · exact List.mem_append_right _ z
  · intro k hk
    rcases List.mem_append.mp hk with z | z
    · rcases h.shut k z with q | q | q
      · exact .inl (List.mem_append_left _ q)
      · exact .inr (.inl q)
      · exact .inr (.inr fun z hz => List.mem_append_left _ (q z hz))
    · exact .inl (List.mem_append_right _ z)
  · intro j x hj e
    by_cases c2 : j = i
    · subst c2
      rw [hu] at e
      cases e
      exact List.mem_append_right _ (by simp)
    · exact List.mem_append_left _ (h.seen j x (by omega) e)
  · have := h.cnt
    simp only [List.length_append, List.length_singleton]
    omega
  · have := h.more
    simp only [List.length_append]
    omega
theorem Trn.done {m : Int} {ws : List (Int × Int)} {y : Int} {ks0 ls0 : List Int} {here : Int} {ks ls : List Int} (h : Trn m ws y ks0 ls0 here ws.length ks ls) : Shut ws ks ls := fun k hk => by
  rcases h.shut k hk with q | q | q
  · exact .inl q
  · refine .inr fun z hz => ?_
    obtain ⟨j, hj⟩ := List.getElem?_of_mem hz
    rw [q] at hj
    exact h.seen j z (List.getElem?_eq_some_iff.mp hj).1 hj
  · exact .inr q
end Mine
/-! ## FF -/
namespace Mine
/-! ### what grows, and what the leading of letters comes to -/
abbrev dAt (ds : List (List Int)) (x : Nat) : List Int := ds.getD x []
abbrev aheadOf (d : List Int) (p : Int) : List Int := d.take (d.idxOf p)
def Grow (ds : List (List Int)) (y x : Nat) (p : Int) : Prop := p ∈ dAt ds y ∧ p ∈ dAt ds x ∧ ∀ q ∈ aheadOf (dAt ds y) p, q ∈ aheadOf (dAt ds x) p
instance (ds : List (List Int)) (y x : Nat) (p : Int) : Decidable (Grow ds y x p) := by unfold Grow; infer_instance
def growL (W : List (Int × Int)) (ds : List (List Int)) (p : Int) : List (Int × Int) := W.filter fun u => decide (Grow ds u.1.toNat u.2.toNat p)
structure Rec (ws : List Int) (ds : List (List Int)) : Prop where
  nd : ∀ d ∈ ds, d.Nodup
  rng : ∀ d ∈ ds, ∀ p ∈ d, 0 ≤ p ∧ p < ws.length
/-- x can write what is next in its diary -/
def Can (W : List (Int × Int)) (ws : List Int) (ds : List (List Int)) (n : Nat → Nat) (x : Nat) : Prop :=
  ∃ p, (dAt ds x)[n x]? = some p ∧ (ws[p.toNat]? = some (x : Int) ∨ ∃ y : Nat, ((y : Int), (x : Int)) ∈ W ∧ Grow ds y x p ∧ p ∈ (dAt ds y).take (n y))
def Full (W : List (Int × Int)) (ws : List Int) (ds : List (List Int)) : Prop := ∀ (p : Nat) (w : Int) (x : Nat), ws[p]? = some w → (p : Int) ∈ dAt ds x → Reach (growL W ds p) w x
theorem nd_at {l : List Int} (nd : l.Nodup) {i j : Nat} (hi : i < l.length) (hj : j < l.length) (e : l[i] = l[j]) : i = j := by
  rcases Nat.lt_trichotomy i j with h | h | h
  · exact absurd e (List.pairwise_iff_getElem.mp nd i j hi hj h)
  · exact h
  · exact absurd e.symm (List.pairwise_iff_getElem.mp nd j i hj hi h)
theorem mem_take_idx {d : List Int} {p : Int} {k : Nat} (nd : d.Nodup) (h : p ∈ d) : p ∈ d.take k ↔ d.idxOf p < k := by
  have hi := List.idxOf_lt_length_iff.mpr h
  have e : d[d.idxOf p] = p := List.getElem_idxOf hi
  constructor
  · intro m
    obtain ⟨j, hj, ej⟩ := List.getElem_of_mem m
    rw [List.length_take] at hj
    rw [List.getElem_take] at ej
    have : d.idxOf p = j := by
      rw [← ej]
      have z : d.idxOf d[j] < d.length := List.idxOf_lt_length_iff.mpr (List.getElem_mem _)
      exact nd_at nd z (by omega) (List.getElem_idxOf z)
    omega
  · intro hk
    rw [List.mem_take_iff_getElem]
    exact ⟨d.idxOf p, by omega, e⟩
theorem dAt_mem {ds : List (List Int)} {x : Nat} {p : Int} (h : p ∈ dAt ds x) : dAt ds x ∈ ds := by
  unfold dAt at h ⊢
  rw [List.getD_eq_getElem?_getD] at h ⊢
  cases e : ds[x]? with
  | none => rw [e] at h; nomatch h
  | some d => rw [Option.getD_some]; exact List.mem_of_getElem? e
theorem grow_pos {ws : List Int} {ds : List (List Int)} (r : Rec ws ds) {y x : Nat} {p : Int} (g : Grow ds y x p) : (dAt ds y).idxOf p ≤ (dAt ds x).idxOf p := by
  have hy := List.idxOf_lt_length_iff.mpr g.1
  have nd : (aheadOf (dAt ds y) p).Nodup := (r.nd _ (dAt_mem g.1)).sublist (List.take_sublist _ _)
  have := List.Nodup.length_le_of_subset nd fun q hq => g.2.2 q hq
  rw [List.length_take, List.length_take] at this
  omega
section
variable {W : List (Int × Int)} {ws : List Int} {ds : List (List Int)} {n : Nat → Nat}
theorem ff_stuck (r : Rec ws ds) (wn : ∀ w ∈ ws, 0 ≤ w) (wW : ∀ u ∈ W, 0 ≤ u.1 ∧ 0 ≤ u.2) (full : Full W ws ds) (st : ∀ x, ¬ Can W ws ds n x) : ∀ k (x : Nat) (p : Int), p ∈ dAt ds x → (dAt ds x).idxOf p = k → k < n x := by
  intro k
  induction k using Nat.strongRecOn with
  | ind k ih =>
  intro x p hp hk
  have rg := r.rng _ (dAt_mem hp) p hp
  -- all that stand ahead are written
  have low : ∀ (z : Nat) (q : Int), q ∈ dAt ds z → (dAt ds z).idxOf q ≤ k → (dAt ds z).idxOf q ≤ n z := fun z q hq hl => by
    cases c : (dAt ds z).idxOf q with
    | zero => exact Nat.zero_le _
    | succ j =>
      have hlt := List.idxOf_lt_length_iff.mpr hq
      have hj : j < (dAt ds z).length := by omega
      have e := ih j (by omega) z (dAt ds z)[j] (List.getElem_mem hj) (by
        have z1 : (dAt ds z).idxOf (dAt ds z)[j] < (dAt ds z).length := List.idxOf_lt_length_iff.mpr (List.getElem_mem hj)
        exact nd_at (r.nd _ (dAt_mem hq)) z1 hj (List.getElem_idxOf z1))
      omega
  have next : ∀ (z : Nat), p ∈ dAt ds z → (dAt ds z).idxOf p = n z → (dAt ds z)[n z]? = some p := fun z hz e => by
    have hlt := List.idxOf_lt_length_iff.mpr hz
    rw [← e, List.getElem?_eq_getElem hlt]
    exact congrArg some (List.getElem_idxOf hlt)
  obtain ⟨w, hw⟩ : ∃ w, ws[p.toNat]? = some w := ⟨_, List.getElem?_eq_getElem (by omega)⟩
  have ep : ((p.toNat : Nat) : Int) = p := by omega
  have way : ∀ z : Int, Reach (growL W ds p) w z → p ∈ dAt ds z.toNat → (dAt ds z.toNat).idxOf p ≤ k → (dAt ds z.toNat).idxOf p < n z.toNat := by
    intro z hz
    induction hz with
    | refl =>
      intro hm hl
      rcases Nat.lt_or_ge ((dAt ds w.toNat).idxOf p) k with c | c
      · exact ih _ c _ _ hm rfl
      · have h1 := low _ _ hm hl
        rcases Nat.lt_or_ge ((dAt ds w.toNat).idxOf p) (n w.toNat) with c2 | c2
        · exact c2
        · refine absurd ⟨p, next _ hm (by omega), .inl ?_⟩ (st w.toNat)
          have := wn w (List.mem_of_getElem? hw)
          rw [hw]; congr 1; omega
    | @step z' z _ e ih2 =>
      intro hm hl
      obtain ⟨eW, eg⟩ := List.mem_filter.mp e
      have eg : Grow ds z'.toNat z.toNat p := of_decide_eq_true eg
      have le := grow_pos r eg
      have h0 := ih2 eg.1 (by omega)
      rcases Nat.lt_or_ge ((dAt ds z.toNat).idxOf p) k with c | c
      · exact ih _ c _ _ hm rfl
      · have h1 := low _ _ hm hl
        rcases Nat.lt_or_ge ((dAt ds z.toNat).idxOf p) (n z.toNat) with c2 | c2
        · exact c2
        · refine absurd ⟨p, next _ hm (by omega), .inr ⟨z'.toNat, ?_, eg, ?_⟩⟩ (st z.toNat)
          · have := wW _ eW
            have e1 : ((z'.toNat : Nat) : Int) = z' := by simp only at this; omega
            have e2 : ((z.toNat : Nat) : Int) = z := by simp only at this; omega
            rw [e1, e2]; exact eW
          · exact (mem_take_idx (r.nd _ (dAt_mem eg.1)) eg.1).mpr h0
  have ex : ((x : Int)).toNat = x := Int.toNat_natCast x
  have fin := way x (by have := full p.toNat w x hw (by rw [ep]; exact hp); rw [ep] at this; exact this)
  rw [ex] at fin
  have := fin hp (by omega)
  omega
/-- all that is written so far came along wires that grow -/
def Came (W : List (Int × Int)) (ws : List Int) (ds : List (List Int)) (n : Nat → Nat) : Prop := ∀ (x : Nat) (p : Int) (w : Int), p ∈ (dAt ds x).take (n x) → ws[p.toNat]? = some w → Reach (growL W ds p) w x
theorem came_step (c : Came W ws ds n) {x : Nat} {p : Int} (hp : (dAt ds x)[n x]? = some p) (h : ws[p.toNat]? = some (x : Int) ∨ ∃ y : Nat, ((y : Int), (x : Int)) ∈ W ∧ Grow ds y x p ∧ p ∈ (dAt ds y).take (n y)) :
    Came W ws ds (fun z => if z = x then n x + 1 else n z) := by
  intro z q w hq hw
  have hq : q ∈ (dAt ds z).take (if z = x then n x + 1 else n z) := hq
  by_cases e : z = x
  · subst e
    rw [if_pos rfl, List.take_add_one, hp] at hq
    rcases List.mem_append.mp hq with hq | hq
    · exact c z q w hq hw
    · have eq : q = p := by simpa using hq
      subst eq
      rcases h with h | ⟨y, h1, h2, h3⟩
      · rw [hw] at h; cases h; exact .refl _
      · exact .step (c y q w h3 hw) (List.mem_filter.mpr ⟨h1, decide_eq_true (by simpa using h2)⟩)
  · rw [if_neg e] at hq
    exact c z q w hq hw
theorem ff (r : Rec ws ds) (wn : ∀ w ∈ ws, 0 ≤ w) (wW : ∀ u ∈ W, 0 ≤ u.1 ∧ 0 ≤ u.2) (came : Came W ws ds n) (st : ∀ x, ¬ Can W ws ds n x) (hn : ∀ x, n x ≤ (dAt ds x).length) : (∀ x, n x = (dAt ds x).length) ↔ Full W ws ds := by
  constructor
  · intro h p w x hw hp
    have := came x p w (by rw [h x, List.take_length]; exact hp) (by simpa using hw)
    exact this
  · intro full x
    have h1 := hn x
    rcases Nat.lt_or_ge (n x) (dAt ds x).length with c | c
    · have := ff_stuck r wn wW full st (n x) x (dAt ds x)[n x] (List.getElem_mem c) (by
        have z1 : (dAt ds x).idxOf (dAt ds x)[n x] < (dAt ds x).length := List.idxOf_lt_length_iff.mpr (List.getElem_mem c)
        exact nd_at (r.nd _ (dAt_mem (List.getElem_mem c))) z1 c (List.getElem_idxOf z1))
      omega
    · omega
end
/-! ### the letter that comes -/
def come (own : List Int) (p : Int) : List Int → Nat
  | [] => 0
  | l :: ls => if l = p then 1 else if l ∈ own then (if come own p ls = 0 then 0 else come own p ls + 1) else 0
theorem come_pos {own : List Int} {p : Int} : ∀ {ls : List Int}, come own p ls ≠ 0 → ∃ i, come own p ls = i + 1 ∧ ls[i]? = some p ∧ ∀ j, j < i → ∀ l, ls[j]? = some l → l ∈ own
  | [], h => absurd rfl h
  | l :: ls, h => by
    unfold come at h ⊢
    by_cases c : l = p
    · rw [if_pos c]
      exact ⟨0, rfl, by rw [c]; rfl, fun j hj => absurd hj (Nat.not_lt_zero _)⟩
    · rw [if_neg c] at h ⊢
      by_cases c2 : l ∈ own
      · rw [if_pos c2] at h ⊢
        by_cases c3 : come own p ls = 0
        · rw [if_pos c3] at h; exact absurd rfl h
        · rw [if_neg c3]
          obtain ⟨i, e, h1, h2⟩ := come_pos c3
          refine ⟨i + 1, by rw [e], h1, fun j hj l' hl' => ?_⟩
          cases j with
          | zero =>
            have e : l = l' := by simpa using hl'
            rw [← e]; exact c2
          | succ j => exact h2 j (by omega) l' (by simpa using hl')
      · rw [if_neg c2] at h; exact absurd rfl h
theorem come_of {own : List Int} {p : Int} : ∀ {ls : List Int} {i : Nat}, ls[i]? = some p → (∀ j, j < i → ∀ l, ls[j]? = some l → l ∈ own) → come own p ls ≠ 0
  | [], i, h, _ => by simp at h
  | l :: ls, i, h, k => by
    unfold come
    by_cases c : l = p
    · rw [if_pos c]; exact Nat.one_ne_zero
    · rw [if_neg c]
      cases i with
      | zero => exact absurd (by simpa using h) c
      | succ i =>
        rw [if_pos (k 0 (by omega) l rfl)]
        have := come_of (ls := ls) (i := i) (by simpa using h) fun j hj l' hl' => k (j + 1) (by omega) l' (by simpa using hl')
        rw [if_neg this]
        exact Nat.succ_ne_zero _
/-- the letters on a wire: what its begin has written, but the first c -/
theorem come_grow {ws : List Int} {ds : List (List Int)} (r : Rec ws ds) {y x : Nat} {n : Nat → Nat} {c : Nat} {p : Int} (hp : (dAt ds x)[n x]? = some p) (hc : ∀ q ∈ ((dAt ds y).take (n y)).take c, q ∈ (dAt ds x).take (n x)) :
    come ((dAt ds x).take (n x)) p (((dAt ds y).take (n y)).drop c) ≠ 0 ↔ (Grow ds y x p ∧ p ∈ (dAt ds y).take (n y)) := by
  have hx : p ∈ dAt ds x := List.mem_of_getElem? hp
  have ndx := r.nd _ (dAt_mem hx)
  have hlt := (List.getElem?_eq_some_iff.mp hp).1
  have ix : (dAt ds x).idxOf p = n x := by
    have z1 : (dAt ds x).idxOf p < (dAt ds x).length := List.idxOf_lt_length_iff.mpr hx
    have e : (dAt ds x)[n x] = p := by rw [List.getElem?_eq_getElem hlt] at hp; exact Option.some.inj hp
    exact nd_at ndx z1 hlt ((List.getElem_idxOf z1).trans e.symm)
  have nox : p ∉ (dAt ds x).take (n x) := fun h => by
    have := (mem_take_idx ndx hx).mp h
    omega
  constructor
  · intro h
    obtain ⟨i, _, hi, hj⟩ := come_pos h
    rw [List.getElem?_drop] at hi
    have hpy : p ∈ (dAt ds y).take (n y) := List.mem_of_getElem? hi
    have hy : p ∈ dAt ds y := List.mem_of_mem_take hpy
    have ndy := r.nd _ (dAt_mem hy)
    have hil := (List.getElem?_eq_some_iff.mp hi).1
    have iy : (dAt ds y).idxOf p = c + i := by
      have z1 : (dAt ds y).idxOf p < (dAt ds y).length := List.idxOf_lt_length_iff.mpr hy
      rw [List.length_take] at hil
      have e : (dAt ds y)[c + i]'(by omega) = p := by
        have := (List.getElem?_eq_some_iff.mp hi).2
        rw [List.getElem_take] at this
        exact this
      exact nd_at ndy z1 (by omega) ((List.getElem_idxOf z1).trans e.symm)
    refine ⟨⟨hy, hx, fun q hq => ?_⟩, hpy⟩
    have ax : aheadOf (dAt ds x) p = (dAt ds x).take (n x) := by unfold aheadOf; rw [ix]
    have ay : aheadOf (dAt ds y) p = (dAt ds y).take (c + i) := by unfold aheadOf; rw [iy]
    rw [ax]
    rw [ay] at hq
    obtain ⟨j, hj1, ej⟩ := List.getElem_of_mem hq
    rw [List.length_take] at hj1
    rw [List.getElem_take] at ej
    rw [List.length_take] at hil
    by_cases cj : j < c
    · refine hc q ?_
      rw [← ej, List.take_take, List.mem_take_iff_getElem]
      exact ⟨j, by omega, rfl⟩
    · refine hj (j - c) (by omega) q ?_
      rw [List.getElem?_drop, List.getElem?_take]
      have e2 : c + (j - c) = j := by omega
      rw [e2, if_pos (by omega), List.getElem?_eq_getElem (by omega), ej]
  · rintro ⟨g, hpy⟩
    have hy := g.1
    have ndy := r.nd _ (dAt_mem hy)
    have iy := (mem_take_idx ndy hy).mp hpy
    have z1 : (dAt ds y).idxOf p < (dAt ds y).length := List.idxOf_lt_length_iff.mpr hy
    have ge : c ≤ (dAt ds y).idxOf p := by
      rcases Nat.lt_or_ge ((dAt ds y).idxOf p) c with z | z
      · refine absurd (hc p ?_) nox
        rw [List.take_take]
        exact (mem_take_idx ndy hy).mpr (by omega)
      · exact z
    refine come_of (i := (dAt ds y).idxOf p - c) ?_ fun j hj l hl => ?_
    · rw [List.getElem?_drop, List.getElem?_take]
      have e2 : c + ((dAt ds y).idxOf p - c) = (dAt ds y).idxOf p := by omega
      rw [e2, if_pos iy, List.getElem?_eq_getElem z1]
      exact congrArg some (List.getElem_idxOf z1)
    · rw [List.getElem?_drop, List.getElem?_take, if_pos (by omega)] at hl
      have q := g.2.2 l (by
        rw [List.mem_take_iff_getElem]
        have hl2 := List.getElem?_eq_some_iff.mp hl
        exact ⟨c + j, by have := hl2.1; omega, hl2.2⟩)
      have ax : aheadOf (dAt ds x) p = (dAt ds x).take (n x) := by unfold aheadOf; rw [ix]
      rw [ax] at q
      exact q
end Mine
/-! ## K9 -/
section
open PySem L2 GA
local macro_rules
  | `(tactic| walk_at "w") => `(tactic| first
    | ((with_reducible refine' GA.w_var ?e ?_); (case e => exact rfl))
    | (with_reducible refine' GA.w_c ?_)
    | (with_reducible refine' GA.w_cons ?_)
    | (with_reducible refine' GA.w_nil ?_)
    | (with_reducible refine' GA.w_op ?_)
    | (with_reducible refine' GA.r_I0 ?_)
    | (with_reducible refine' GA.w_bl ?_)
    | (with_reducible refine' GA.w_seq ?_)
    | (with_reducible refine' GA.w_set ?_)
    | (with_reducible refine' GA.w_ret ?_)
    | (with_reducible refine' GA.w_ifS ?_)
    | (with_reducible refine' GA.w_test ?_)
    | (with_reducible refine' GA.w_tB ?_)
    | (with_reducible refine' GA.w_not ?_)
    | (with_reducible refine' GA.w_and ?_)
    | (with_reducible refine' GA.w_or ?_)
    | (with_reducible refine' GA.w_andV ?_)
    | (with_reducible refine' GA.w_orV ?_)
    | (with_reducible refine' GA.w_notV ?_)
    | (with_reducible refine' GA.w_blc ?_)
    | (with_reducible refine' GA.w_if ?_)
    | (with_reducible refine' GA.w_CB ?_)
    | (with_reducible refine' GA.w_call ?_)
    | (with_reducible refine' GA.w_tupN ?_)
    | (with_reducible refine' GA.w_lstN ?_)
    | (with_reducible refine' GA.w_chain ?_)
    | (with_reducible refine' GA.w_drop ?_)
    | (with_reducible refine' GA.w_next ?_)
    | (with_reducible refine' GA.w_break ?_)
    | (with_reducible refine' GA.w_un ?_)
    | (with_reducible refine' GA.r_U ?_)
    | (with_reducible refine' GA.r_eqI ?_)
    | (with_reducible refine' GA.r_neI ?_)
    | (with_reducible refine' GA.r_eqB ?_)
    | (with_reducible refine' GA.r_neB ?_)
    | (with_reducible refine' GA.w_fld ?_)
    | (with_reducible refine' GA.w_sfld ?_)
    | (with_reducible refine' GA.w_sl ?_)
    | (with_reducible refine' GA.w_part ?_)
    | (with_reducible refine' GA.w_noPart ?_)
    | (with_reducible refine' GA.w_inti ?_)
    | (with_reducible refine' GA.w_retN ?_)
    | (with_reducible refine' GA.w_gsub ?_)
    | (with_reducible refine' GA.w_gname ?_)
    | (with_reducible refine' L2.iteT ?_)
    | (with_reducible refine' L2.iteF ?_)
    | (with_reducible refine' GA.w_nt ?_)
    | (with_reducible refine' GA.w_nf ?_)
    | (with_reducible refine' GA.w_isN ?_)
    | (with_reducible refine' GA.w_notN ?_)
    | (with_reducible refine' GA.w_yes ?_)
    | (with_reducible refine' GA.w_lc ?_)
    | (with_reducible refine' GA.w_lc2 ?_)
    | (with_reducible refine' GA.w_iseq ?_)
    | (with_reducible refine' GA.w_make ?_)
    | (with_reducible refine' GA.w_for ?_)
    | (with_reducible refine' GA.w_rng1 ?_)
    | (with_reducible refine' GA.w_rng2 ?_)
    | (with_reducible refine' GA.w_itup ?_)
    | (with_reducible refine' GA.w_ilist ?_)
    | (with_reducible refine' GA.w_ienum ?_)
    | (with_reducible refine' GA.w_BM ?_)
    | (with_reducible refine' GA.w_BM0 ?_)
    | (with_reducible refine' GA.w_izip ?_)
    | (with_reducible refine' GA.w_asg ?_))
  | `(tactic| walk_at "wm") => `(tactic| first
    | ((with_reducible refine' GA.w_var ?e ?_); (case e => exact rfl))
    | (with_reducible refine' GA.w_c ?_)
    | (with_reducible refine' GA.w_cons ?_)
    | (with_reducible refine' GA.w_nil ?_)
    | (with_reducible refine' GA.w_op ?_)
    | (with_reducible refine' GA.r_I0 ?_)
    | (with_reducible refine' GA.w_bl ?_)
    | (with_reducible refine' GA.w_set ?_)
    | (with_reducible refine' GA.w_ret ?_)
    | (with_reducible refine' GA.w_ifS ?_)
    | (with_reducible refine' GA.w_test ?_)
    | (with_reducible refine' GA.w_tB ?_)
    | (with_reducible refine' GA.w_not ?_)
    | (with_reducible refine' GA.w_and ?_)
    | (with_reducible refine' GA.w_or ?_)
    | (with_reducible refine' GA.w_andV ?_)
    | (with_reducible refine' GA.w_orV ?_)
    | (with_reducible refine' GA.w_notV ?_)
    | (with_reducible refine' GA.w_blc ?_)
    | (with_reducible refine' GA.w_if ?_)
    | (with_reducible refine' GA.w_CB ?_)
    | (with_reducible refine' GA.w_call ?_)
    | (with_reducible refine' GA.w_tupN ?_)
    | (with_reducible refine' GA.w_lstN ?_)
    | (with_reducible refine' GA.w_chain ?_)
    | (with_reducible refine' GA.w_drop ?_)
    | (with_reducible refine' GA.w_next ?_)
    | (with_reducible refine' GA.w_break ?_)
    | (with_reducible refine' GA.w_un ?_)
    | (with_reducible refine' GA.r_U ?_)
    | (with_reducible refine' GA.r_eqI ?_)
    | (with_reducible refine' GA.r_neI ?_)
    | (with_reducible refine' GA.r_eqB ?_)
    | (with_reducible refine' GA.r_neB ?_)
    | (with_reducible refine' GA.w_fld ?_)
    | (with_reducible refine' GA.w_sfld ?_)
    | (with_reducible refine' GA.w_sl ?_)
    | (with_reducible refine' GA.w_part ?_)
    | (with_reducible refine' GA.w_noPart ?_)
    | (with_reducible refine' GA.w_inti ?_)
    | (with_reducible refine' GA.w_retN ?_)
    | (with_reducible refine' GA.w_gsub ?_)
    | (with_reducible refine' GA.w_gname ?_)
    | (with_reducible refine' L2.iteT ?_)
    | (with_reducible refine' L2.iteF ?_)
    | (with_reducible refine' GA.w_nt ?_)
    | (with_reducible refine' GA.w_nf ?_)
    | (with_reducible refine' GA.w_isN ?_)
    | (with_reducible refine' GA.w_notN ?_)
    | (with_reducible refine' GA.w_yes ?_)
    | (with_reducible refine' GA.w_lc ?_)
    | (with_reducible refine' GA.w_lc2 ?_)
    | (with_reducible refine' GA.w_iseq ?_)
    | (with_reducible refine' GA.w_make ?_)
    | (with_reducible refine' GA.w_for ?_)
    | (with_reducible refine' GA.w_rng1 ?_)
    | (with_reducible refine' GA.w_rng2 ?_)
    | (with_reducible refine' GA.w_itup ?_)
    | (with_reducible refine' GA.w_ilist ?_)
    | (with_reducible refine' GA.w_ienum ?_)
    | (with_reducible refine' GA.w_BM ?_)
    | (with_reducible refine' GA.w_BM0 ?_)
    | (with_reducible refine' GA.w_izip ?_)
    | (with_reducible refine' GA.w_asg ?_))
  | `(tactic| walk_at "ws") => `(tactic| repeat (walk_at "w"))
  | `(tactic| walk_at "wn") => `(tactic| repeat (walk_at "wm"))


namespace Mine
section
variable {P : Program} {w : World} {K : PySem.W.Frag} {mg : Str → Option Value} {base : Heap} {a : Ads}

/-! ### diaries, lists -/
def upto (n : Nat) : List Int := (List.range n).map fun (i : Nat) => (i : Int)
theorem perm_pop {os ls : List Int} {r : Nat} (h : r < ls.length) {l : List Int} (p : (os ++ ls).Perm l) : ((os ++ [ls[r]]) ++ ls.eraseIdx r).Perm l := by
  refine List.Perm.trans ?_ p
  rw [List.append_assoc]
  refine List.Perm.append_left os ?_
  have e := List.take_append_drop r ls
  have e2 : ls.drop r = ls[r] :: ls.drop (r + 1) := List.drop_eq_getElem_cons h
  rw [List.eraseIdx_eq_take_drop_succ]
  have : ls = ls.take r ++ ls[r] :: ls.drop (r + 1) := by rw [← e2, e]
  conv => rhs; rw [this]
  show (ls[r] :: (ls.take r ++ ls.drop (r + 1))).Perm _
  exact List.perm_middle.symm
theorem erase_ints (ls : List Int) (r : Nat) : (ls.map V.int).eraseIdx r = (ls.eraseIdx r).map V.int := erase_mapI ls r

theorem dia_app {H : Hp} {bs : List Addr} {ds : List (List Int)} {b : Addr} {d : List Int} (h2 : bs.length = ds.length) (h3 : ∀ (i : Nat) (b : Addr) (d : List Int), bs[i]? = some b → ds[i]? = some d → FrzT H b (d.map V.int)) (hb : FrzT H b (d.map V.int)) :
    ∀ (i : Nat) (b' : Addr) (d' : List Int), (bs ++ [b])[i]? = some b' → (ds ++ [d])[i]? = some d' → FrzT H b' (d'.map V.int) := fun i b' d' e1 e2 => by
  by_cases c : i < bs.length
  · rw [List.getElem?_append_left c] at e1
    rw [List.getElem?_append_left (by omega)] at e2
    exact h3 i b' d' e1 e2
  · rw [List.getElem?_append_right (by omega)] at e1
    rw [List.getElem?_append_right (by omega), ← h2] at e2
    cases q : i - bs.length with
    | zero =>
      rw [q] at e1 e2
      simp at e1 e2
      subst e1 e2
      exact hb
    | succ j =>
      rw [q] at e1
      simp at e1
theorem FrzT.g {H H' : Hp} {p : Addr} {xs : List V} {o : Option (Addr × Addr)} (h : FrzT H p xs) (g : G o H H') (hh : ∀ q, o = some q → Hand H q.1 q.2) : FrzT H' p xs := by
  obtain ⟨ob, h, d⟩ := h
  refine ⟨ob, g.keep p _ (fun q e => ?_) h, d⟩
  obtain ⟨_, _, _, _, _, _, z, _⟩ := hh q e
  exact ne_of h z (by intro z; cases z)
theorem FrzT.put {H : Hp} {p l : Addr} {xs ys : List V} {u : HO} (h : FrzT H p xs) (hl : H l = some (.lst ys)) : FrzT (upd H l u) p xs := by
  obtain ⟨ob, h, d⟩ := h
  exact ⟨ob, by rw [upd_ne (ne_of h hl (by intro z; cases z))]; exact h, d⟩
theorem mo_len {K : PySem.W.Frag} {i : Nat} : MoE (tCB (rLenK K) (tCons (tVar i) tNil)) := fun σ H Q Q' k ⟨v, e, p, ys, e1, e2, q⟩ => ⟨v, e, p, ys, e1, e2, k _ _ q⟩

end
end Mine
/-! ## K9b -/


namespace Mine
section
variable {P : Program} {w : World} {K : PySem.W.Frag} {mg : Str → Option Value} {base : Heap} {a : Ads}

/-! ### ways_from -/
def outs (us : List (Int × Int)) (y : Int) : List Int := (us.filter fun u => decide (u.1 = y)).map (·.2)
theorem outs_snoc (us : List (Int × Int)) (u : Int × Int) (y : Int) : outs (us ++ [u]) y = outs us y ++ (if u.1 = y then [u.2] else []) := by
  unfold outs
  rw [List.filter_append, List.map_append]
  congr 1
  by_cases c : u.1 = y <;> simp [c]
theorem outs_mem {us : List (Int × Int)} {y x : Int} : x ∈ outs us y ↔ (y, x) ∈ us := by
  unfold outs
  rw [List.mem_map]
  constructor
  · rintro ⟨u, hu, rfl⟩
    obtain ⟨h1, h2⟩ := List.mem_filter.mp hu
    have e : u.1 = y := of_decide_eq_true h2
    have : u = (y, u.2) := Prod.ext e rfl
    rw [← this]; exact h1
  · intro h
    exact ⟨(y, x), List.mem_filter.mpr ⟨h, decide_eq_true rfl⟩, rfl⟩
abbrev kvO (ps : List (Int × Addr)) : List (Key × V) := ps.map fun p => ((Sum.inl p.1 : Key), V.ref p.2)
theorem kvO_in : ∀ {ps : List (Int × Addr)} {p : Int × Addr}, (ps.map (·.1)).Nodup → p ∈ ps → valV (kvO ps) (Sum.inl p.1) = some (.ref p.2)
  | [], _, _, h => nomatch h
  | q :: ps, p, nd, h => by
    rw [List.map_cons, List.nodup_cons] at nd
    rcases List.mem_cons.mp h with e | h
    · subst e; exact valV_pos rfl
    · refine (valV_neg fun z => ?_).trans (kvO_in nd.2 h)
      have e : q.1 = p.1 := Sum.inl.inj z
      exact nd.1 (e ▸ List.mem_map_of_mem h)
theorem kvO_out {ps : List (Int × Addr)} {y : Int} (h : ∀ p ∈ ps, p.1 ≠ y) : valV (kvO ps) (Sum.inl y) = none := by
  induction ps with
  | nil => rfl
  | cons q ps ih => exact (valV_neg fun z => h q List.mem_cons_self (Sum.inl.inj z)).trans (ih fun p hp => h p (List.mem_cons_of_mem _ hp))
theorem kv_any {kvs : List (Key × V)} {ks : List Int} (h : kvs.map (·.1) = ks.map Sum.inl) (z : Int) : (kvs.any fun kv => decide (kv.1 = (Sum.inl z : Key))) = decide (z ∈ ks) := by
  have e : (kvs.any fun kv => decide (kv.1 = (Sum.inl z : Key))) = (kvs.map (·.1)).any fun k => decide (k = (Sum.inl z : Key)) := by rw [List.any_map]; rfl
  rw [e, h, List.any_map, Bool.eq_iff_iff, List.any_eq_true, decide_eq_true_iff]
  constructor
  · rintro ⟨k, hk, q⟩
    have q : (Sum.inl k : Key) = Sum.inl z := of_decide_eq_true q
    exact Sum.inl.inj q ▸ hk
  · intro hz
    exact ⟨z, hz, decide_eq_true rfl⟩
theorem kv_put {kvs : List (Key × V)} {ks : List Int} (h : kvs.map (·.1) = ks.map Sum.inl) {z : Int} (hz : z ∉ ks) (v : V) : putK kvs (Sum.inl z) v = kvs ++ [((Sum.inl z : Key), v)] := by
  unfold putK
  rw [kv_any h, if_neg (by simpa using hz)]
theorem new_bk {H0 H1 : Hp} {D : Addr} (g : G none H0 H1) (h : H1 D = none) : H0 D = none := by
  cases e : H0 D with
  | none => rfl
  | some u => rw [g.all _ _ e] at h; cases h
theorem w_dsetd {td ty tx : TE} {σ : L2.St} {H : Hp} {Q : VK} (q : td σ H fun x H1 => ∃ a, x = .ref a ∧ IsD H1 a ∧ ty σ H1 fun y H2 => tx σ H2 fun z H3 => ∃ (kvs : List (Key × V)) (k : Key), H3 a = some (.dK kvs) ∧ y = kV k ∧ kvs.length < sizeLine ∧ (∀ v, valV kvs k = some v → Q v H3) ∧ (valV kvs k = none → Q z (upd H3 a (.dK (putK kvs k z))))) : tDSetd td ty tx σ H Q := q
theorem w_dget2 {td ty tx : TE} {σ : L2.St} {H : Hp} {Q : VK} (q : td σ H fun x H1 => ∃ a, x = .ref a ∧ IsD H1 a ∧ ty σ H1 fun y H2 => tx σ H2 fun z H3 => ∃ o, DGet H3 a y o ∧ Q (o.getD z) H3) : tDGet2 td ty tx σ H Q := q
theorem w_aug {i : Nat} {te : TE} {ti : TIp} {D : Ends} {σ : L2.St} {H : Hp} (q : ∃ x, σ[i]? = some (some x) ∧ te σ H fun y H1 => ti x y H1 fun z H2 => D.nx (σ.set i (some z)) H2) : tAug i te ti D σ H := q
/-- where each machine's wires lead, as lists in a dict -/
structure On (H0 H : Hp) (od : Addr) (ps : List (Int × Addr)) (us : List (Int × Int)) : Prop where
  d : H od = some (.dK (kvO ps))
  nk : (ps.map (·.1)).Nodup
  na : (ps.map (·.2)).Nodup
  l : ∀ p ∈ ps, H p.2 = some (.lst ((outs us p.1).map V.int)) ∧ H0 p.2 = none
  all : ∀ u ∈ us, ∃ p ∈ ps, p.1 = u.1
theorem On.keep {H0 H H' : Hp} {od : Addr} {ps : List (Int × Addr)} {us : List (Int × Int)} (o : On H0 H od ps us) (k : ∀ b u, (b = od ∨ ∃ p ∈ ps, b = p.2) → H b = some u → H' b = some u) : On H0 H' od ps us :=
  ⟨k _ _ (.inl rfl) o.d, o.nk, o.na, fun p hp => ⟨k _ _ (.inr ⟨p, hp, rfl⟩) (o.l p hp).1, (o.l p hp).2⟩, o.all⟩
theorem On.none_ {H0 H : Hp} {od : Addr} {ps : List (Int × Addr)} {us : List (Int × Int)} (o : On H0 H od ps us) {y : Int} (h : ∀ p ∈ ps, p.1 ≠ y) : outs us y = [] := by
  refine List.eq_nil_iff_forall_not_mem.mpr fun x hx => ?_
  obtain ⟨p, hp, e⟩ := o.all _ (outs_mem.mp hx)
  exact h p hp e
theorem snd_inj {ps : List (Int × Addr)} (na : (ps.map (·.2)).Nodup) {p q : Int × Addr} (hp : p ∈ ps) (hq : q ∈ ps) (e : p.2 = q.2) : p = q := by
  induction ps with
  | nil => nomatch hp
  | cons r ps ih =>
    rw [List.map_cons, List.nodup_cons] at na
    rcases List.mem_cons.mp hp with e1 | hp
    · rcases List.mem_cons.mp hq with e2 | hq
      · rw [e1, e2]
      · rw [e1] at e; exact absurd (e ▸ List.mem_map_of_mem hq) na.1
    · rcases List.mem_cons.mp hq with e2 | hq
      · rw [e2] at e; exact absurd (e ▸ List.mem_map_of_mem hp) na.1
      · exact ih na.2 hp hq
theorem fst_inj {ps : List (Int × Addr)} (na : (ps.map (·.1)).Nodup) {p q : Int × Addr} (hp : p ∈ ps) (hq : q ∈ ps) (e : p.1 = q.1) : p = q := by
  induction ps with
  | nil => nomatch hp
  | cons r ps ih =>
    rw [List.map_cons, List.nodup_cons] at na
    rcases List.mem_cons.mp hp with e1 | hp
    · rcases List.mem_cons.mp hq with e2 | hq
      · rw [e1, e2]
      · rw [e1] at e; exact absurd (e ▸ List.mem_map_of_mem hq) na.1
    · rcases List.mem_cons.mp hq with e2 | hq
      · rw [e2] at e; exact absurd (e ▸ List.mem_map_of_mem hp) na.1
      · exact ih na.2 hp hq
/-- one wire more, its machine known -/
theorem On.more {H0 H : Hp} {od : Addr} {ps : List (Int × Addr)} {us : List (Int × Int)} (o : On H0 H od ps us) {p : Int × Addr} (hp : p ∈ ps) (x : Int) : On H0 (upd H p.2 (.lst ((outs us p.1).map V.int ++ [.int x]))) od ps (us ++ [(p.1, x)]) := by
  have n0 : od ≠ p.2 := ne_of o.d (o.l p hp).1 (by intro z; cases z)
  refine ⟨by rw [upd_ne n0]; exact o.d, o.nk, o.na, fun q hq => ⟨?_, (o.l q hq).2⟩, fun u hu => ?_⟩
  · rw [outs_snoc]
    by_cases c : q = p
    · subst c
      rw [upd_same, if_pos rfl, List.map_append]; rfl
    · have n1 : q.2 ≠ p.2 := fun e => c (snd_inj o.na hq hp e)
      have n2 : ¬ p.1 = q.1 := fun e => c (fst_inj o.nk hq hp e.symm)
      rw [upd_ne n1, if_neg n2, List.append_nil]
      exact (o.l q hq).1
  · rcases List.mem_append.mp hu with h | h
    · exact o.all u h
    · have e : u = (p.1, x) := by simpa using h
      subst e; exact ⟨p, hp, rfl⟩
/-- one wire more, its machine new -/
theorem On.new {H0 H : Hp} {od l : Addr} {ps : List (Int × Addr)} {us : List (Int × Int)} (o : On H0 H od ps us) {y : Int} (hy : ∀ p ∈ ps, p.1 ≠ y) (hl : H l = some (.lst [])) (h0 : H0 l = none) (nl : ∀ p ∈ ps, p.2 ≠ l) (x : Int) :
    On H0 (upd (upd H od (.dK (kvO ps ++ [((Sum.inl y : Key), V.ref l)]))) l (.lst ([] ++ [.int x]))) od (ps ++ [(y, l)]) (us ++ [(y, x)]) := by
  have n0 : od ≠ l := ne_of o.d hl (by intro z; cases z)
  refine ⟨by rw [upd_ne n0, upd_same]; unfold kvO; rw [List.map_append]; rfl, ?_, ?_, fun q hq => ?_, fun u hu => ?_⟩
  · rw [List.map_append, List.nodup_append]
    refine ⟨o.nk, by simp, fun a ha b hb e => ?_⟩
    have eb : b = y := by simpa using hb
    obtain ⟨p, hp, e2⟩ := List.mem_map.mp ha
    exact hy p hp (by rw [e2, e, eb])
  · rw [List.map_append, List.nodup_append]
    refine ⟨o.na, by simp, fun a ha b hb e => ?_⟩
    have eb : b = l := by simpa using hb
    obtain ⟨p, hp, e2⟩ := List.mem_map.mp ha
    exact nl p hp (by rw [e2, e, eb])
  · rw [outs_snoc]
    rcases List.mem_append.mp hq with h | h
    · have n1 : q.2 ≠ od := (ne_of o.d (o.l q h).1 (by intro z; cases z)).symm
      have n2 : ¬ y = q.1 := fun e => hy q h e.symm
      rw [upd_ne (nl q h), upd_ne n1, if_neg n2, List.append_nil]
      exact o.l q h
    · have e : q = (y, l) := by simpa using h
      subst e
      rw [upd_same, if_pos rfl, o.none_ hy]
      exact ⟨rfl, h0⟩
  · rcases List.mem_append.mp hu with h | h
    · obtain ⟨p, hp, e⟩ := o.all u h
      exact ⟨p, List.mem_append_left _ hp, e⟩
    · have e : u = (y, x) := by simpa using h
      subst e; exact ⟨(y, l), List.mem_append_right _ (by simp), rfl⟩
theorem ps_few {ps : List (Int × Addr)} {m : Int} (nk : (ps.map (·.1)).Nodup) (h : ∀ p ∈ ps, 0 ≤ p.1 ∧ p.1 < m) (hm : m ≤ 60) : ps.length ≤ 60 := by
  have := List.Nodup.length_le_of_subset (l₂ := (List.range 60).map fun (i : Nat) => (i : Int)) nk fun k hk => by
    obtain ⟨p, hp, rfl⟩ := List.mem_map.mp hk
    have := h p hp
    exact List.mem_map.mpr ⟨p.1.toNat, List.mem_range.mpr (by omega), by omega⟩
  simpa using this
/-- what is found on the way -/
structure Way (m : Int) (us : List (Int × Int)) (y : Int) (qs : List Int) (n : Nat) : Prop where
  nd : qs.Nodup
  rng : ∀ k ∈ qs, 0 ≤ k ∧ k < m
  reach : ∀ k ∈ qs, Reach us y k
  begin_ : y ∈ qs
  le : n ≤ qs.length
  shut : ∀ (i : Nat) (k : Int), i < n → qs[i]? = some k → ∀ z, (k, z) ∈ us → z ∈ qs
theorem Way.few {m : Int} {us : List (Int × Int)} {y : Int} {qs : List Int} {n : Nat} (w : Way m us y qs n) : (qs.length : Int) ≤ m := by
  have hm : 0 ≤ m := by have := w.rng _ w.begin_; omega
  have := List.Nodup.length_le_of_subset (l₂ := (List.range m.toNat).map fun (i : Nat) => (i : Int)) w.nd fun k hk => by
    have := w.rng k hk
    exact List.mem_map.mpr ⟨k.toNat, List.mem_range.mpr (by omega), by omega⟩
  simp at this
  omega
theorem Way.all {m : Int} {us : List (Int × Int)} {y : Int} {qs : List Int} {n : Nat} (w : Way m us y qs n) (e : n = qs.length) (z : Int) : z ∈ qs ↔ Reach us y z := by
  refine ⟨w.reach z, fun r => ?_⟩
  induction r with
  | refl => exact w.begin_
  | step _ e1 ih =>
    obtain ⟨i, hi, e2⟩ := List.getElem_of_mem ih
    exact w.shut i _ (by omega) (by rw [← e2]; exact List.getElem?_eq_getElem hi) _ e1
/-- what is found, each machine with the one ahead of it -/
inductive TreeK (us : List (Int × Int)) (y : Int) : List (Key × V) → List Int → Prop where
  | one : TreeK us y [((Sum.inl y : Key), .non)] [y]
  | more {kvs : List (Key × V)} {qs : List Int} {x here : Int} : TreeK us y kvs qs → here ∈ qs → (here, x) ∈ us → x ∉ qs → TreeK us y (kvs ++ [((Sum.inl x : Key), .int here)]) (qs ++ [x])
theorem TreeK.keys {us : List (Int × Int)} {y : Int} {kvs : List (Key × V)} {qs : List Int} (t : TreeK us y kvs qs) : kvs.map (·.1) = qs.map Sum.inl := by
  induction t with
  | one => rfl
  | more _ _ _ _ ih => rw [List.map_append, List.map_append, ih]; rfl
/-- what is found is sure: the states that the walk goes through -/
def wAdd (here : Int) (s : List (Key × V) × List Int) (x : Int) : List (Key × V) × List Int := if x ∈ s.2 then s else (s.1 ++ [((Sum.inl x : Key), .int here)], s.2 ++ [x])
def wSt (us : List (Int × Int)) (y : Int) : Nat → List (Key × V) × List Int
  | 0 => ([((Sum.inl y : Key), .non)], [y])
  | n + 1 => match (wSt us y n).2[n]? with
    | none => wSt us y n
    | some here => (outs us here).foldl (wAdd here) (wSt us y n)
def wfK (us : List (Int × Int)) (y : Int) : List (Key × V) := (wSt us y 60).1
theorem wSt_more {us : List (Int × Int)} {y : Int} {n : Nat} (h : (wSt us y n).2.length ≤ n) : ∀ k, wSt us y (n + k) = wSt us y n
  | 0 => rfl
  | k + 1 => by
    have e := wSt_more h k
    rw [← Nat.add_assoc]
    show (match (wSt us y (n + k)).2[n + k]? with | none => _ | some here => _) = _
    rw [e, List.getElem?_eq_none (by omega)]
theorem wSt_app {us : List (Int × Int)} {here x : Int} {i : Nat} {s t : List (Key × V) × List Int} (h : t = ((outs us here).take i).foldl (wAdd here) s) (hx : (outs us here)[i]? = some x) (n : x ∉ t.2) : (t.1 ++ [((Sum.inl x : Key), V.int here)], t.2 ++ [x]) = ((outs us here).take (i + 1)).foldl (wAdd here) s := by
  rw [List.take_add_one, hx, List.foldl_append, ← h]
  show _ = wAdd here t x
  unfold wAdd
  rw [if_neg n]
theorem wSt_skip {us : List (Int × Int)} {here x : Int} {i : Nat} {s t : List (Key × V) × List Int} (h : t = ((outs us here).take i).foldl (wAdd here) s) (hx : (outs us here)[i]? = some x) (n : x ∈ t.2) : t = ((outs us here).take (i + 1)).foldl (wAdd here) s := by
  rw [List.take_add_one, hx, List.foldl_append, ← h]
  show _ = wAdd here t x
  unfold wAdd
  rw [if_pos n]
theorem wSt_row {us : List (Int × Int)} {y here : Int} {n : Nat} {qs : List Int} {kvs : List (Key × V)} {t : List (Key × V) × List Int} (h0 : (kvs, qs) = wSt us y n) (hh : qs[n]? = some here) (h : t = (outs us here).foldl (wAdd here) (wSt us y n)) : t = wSt us y (n + 1) := by
  show _ = (match (wSt us y n).2[n]? with | none => _ | some here => _)
  rw [← h0] at h ⊢
  rw [hh]
  exact h
theorem wSt_end {us : List (Int × Int)} {y : Int} {n : Nat} {qs : List Int} {kvs : List (Key × V)} (h : (kvs, qs) = wSt us y n) (hn : n = qs.length) (h60 : n ≤ 60) : kvs = wfK us y := by
  have e : (wSt us y n).2.length ≤ n := by rw [← h]; show qs.length ≤ n; omega
  have q := wSt_more e (60 - n)
  rw [show n + (60 - n) = 60 from by omega] at q
  unfold wfK
  rw [q, ← h]
def sp_ways_from (K : PySem.W.Frag) : Sp := fun vs H Q _ => ∃ (y m : Int) (wa : Addr) (xs : List V) (us : List (Int × Int)), vs = [.int y, .ref wa] ∧ SqL K H wa xs ∧ DpAll K H xs (us.map dP) ∧ (∀ u ∈ us, (0 ≤ u.1 ∧ u.1 < m) ∧ (0 ≤ u.2 ∧ u.2 < m)) ∧ us.length ≤ 1000 ∧ (0 ≤ y ∧ y < m) ∧ m ≤ 60 ∧
  ∀ (f : Addr) (kvs : List (Key × V)) (ks : List Int) H', H f = none → G none H H' → H' f = some (.dK kvs) → TreeK us y kvs ks → ks.Nodup → (∀ k ∈ ks, 0 ≤ k ∧ k < m) → (∀ z, z ∈ ks ↔ Reach us y z) → kvs = wfK us y → Q (.ref f) H'
theorem ok_ways_from (T : Txt K mg a) : FnOk P w K mg base CX0 1 a.f_ways_from a.d_ways_from P_ways_from (sp_ways_from K) := by
  refine T.F_ways_from.ok sc_ways_from (fun vs H Q E h => by obtain ⟨y, m, wa, xs, us, rfl, _⟩ := h; rfl) (fun cdv A outer s H vs Q E hr h => ?_)
  obtain ⟨y, m, wa, xs, us, rfl, hxs, hds, hus, lu, hy, hm, k⟩ := h
  have lx : xs.length = us.length := by rw [DpAll.length hds, List.length_map]
  refine ⟨_, (pss_cons (ps_set (i := 2) sc_ways_from.nd rfl (Or.inl rfl) pe_dnewK)
  (pss_cons (ps_for PassesOwn.never rfl (pi_list (pv 1)) (pg_tup rfl (pgs_cons (pg_name (i := 3) sc_ways_from.nd rfl (Or.inl rfl)) (pgs_cons (pg_name (i := 4) sc_ways_from.nd rfl (Or.inl rfl)) pgs_nil)))
    (pss_one (ps_expr (pe_bm PySem.F.plainAttrs_list PySem.F.slot_list_append PySem.F.type_list_append mt_append (pe_dsetd (pv 2) (pv 3) (pe_lstN pa_nil) ⟨rfl, rfl, rfl, rfl⟩) (pa_cons (pv 4) pa_nil)))))
  (pss_cons (ps_set (i := 5) sc_ways_from.nd rfl (Or.inl rfl) (pe_disp (pps_cons (pv 0) pe_non pps_nil) (by rfl) (by rfl) (fun z => by cases z) (by decide)))
  (pss_cons (ps_set (i := 6) sc_ways_from.nd rfl (Or.inl rfl) (pe_lstN (pa_cons (pv 0) pa_nil)))
  (pss_cons (ps_set (i := 7) sc_ways_from.nd rfl (Or.inl rfl) pe_int)
  (pss_cons (ps_while PassesOwn.never (pt_cmpR op_lt (pv 7) (pe_callB call_len_seq (by rfl) T.n_len (by decide +kernel) (pa_cons (pv 6) pa_nil)) (nomark _))
    (pss_cons (ps_set (i := 8) sc_ways_from.nd rfl (Or.inl rfl) (pe_ix ix_list (pv 6) (pv 7) (fun _ _ => rfl)))
  (pss_cons (ps_aug (i := 7) sc_ways_from.nd rfl (Or.inl rfl) pe_int ip_add)
  (pss_one (ps_for PassesOwn.never rfl (pi_list (pe_dget2 (hu_of hr) (pv 2) (pv 8) (pe_lstN pa_nil) ⟨rfl, rfl, rfl, rfl⟩)) (pg_name (i := 4) sc_ways_from.nd rfl (Or.inl rfl))
    (pss_one (ps_if (pt_cmp (pc_dnotin (hu_of hr) (pv 4) (pv 5)))
    (pss_cons (ps_dput (hu_of hr) (pv 5) (pv 4) (pv 8) rfl)
  (pss_one (ps_expr (pe_bm PySem.F.plainAttrs_list PySem.F.slot_list_append PySem.F.type_list_append mt_append (pv 6) (pa_cons (pv 4) pa_nil)))))
    pss_nil)))))))
  (pss_one (ps_ret (pv 5))))))))), ?_⟩
  walk_at "ws"
  intro od hod
  have h1 : (upd H od (.dK [])) od = some (.dK (kvO [])) := upd_same
  have g1 : G none H (upd H od (.dK [])) := G.alloc hod
  generalize upd H od (.dK []) = H1 at h1 g1 ⊢
  walk_at "ws"
  refine i_list (sqL_n g1 hxs) ?_
  refine for_it (walk_list (xs := xs)) (fun i σ H' => ∃ ps u3 u4, σ = [some (.int y), some (.ref wa), some (.ref od), u3, u4, none, none, none, none] ∧ G none H H' ∧ On H H' od ps (us.take i) ∧ ∀ p ∈ ps, 0 ≤ p.1 ∧ p.1 < m) ⟨[], _, _, rfl, g1, ⟨h1, by simp, by simp, (fun _ h => nomatch h), (fun _ h => nomatch h)⟩, (fun _ h => nomatch h)⟩ (fun i σ H' _ ⟨_, _, _, _, q, _⟩ => sqL_n q hxs) ?_ ?_
  · rintro i v σ _ H2 hi ⟨ps, u3, u4, rfl, g2, on, hps⟩ ⟨rfl, hv⟩
    obtain ⟨d, hd, hvd⟩ := DpAll.get hds hv
    rw [List.getElem?_map] at hd
    obtain ⟨u, hu, rfl⟩ := Option.map_eq_some_iff.mp hd
    obtain ⟨t, rfl, ht⟩ := dp_dP hvd
    have um := hus u (List.mem_of_getElem? hu)
    have tk : us.take (i + 1) = us.take i ++ [u] := by rw [List.take_add_one, hu]; rfl
    have l60 := ps_few on.nk hps hm
    refine ⟨t, _, rfl, sqT_t g2.tups ht, rfl, ?_⟩
    refine ⟨_, _, rfl, ?_⟩
    walk_at "ws"
    refine ⟨_, _, rfl, ?_⟩
    walk_at "ws"
    refine ⟨rfl, ?_⟩
    walk_at "ws"
    refine w_dsetd ?_
    walk_at "ws"
    refine ⟨od, rfl, .inl ⟨_, .inl on.d⟩, ?_⟩
    walk_at "ws"
    refine ⟨sz (by simp), fun l H3 hl g3 h3 => ?_⟩
    have on3 : On H H3 od ps (us.take i) := on.keep fun b u _ e => (g3 none).all _ _ e
    have g03 := g2.trans (g3 none)
    have l0 : H l = none := new_bk g2 hl
    refine ⟨kvO ps, Sum.inl u.1, on3.d, rfl, Nat.lt_of_le_of_lt (by unfold kvO; rw [List.length_map]; exact l60) (by decide : (60 : Nat) < sizeLine), fun v hv => ?_, fun hv => ?_⟩
    · obtain ⟨p, hp, e⟩ : ∃ p ∈ ps, p.1 = u.1 := by
        by_cases c : ∃ p ∈ ps, p.1 = u.1
        · exact c
        · rw [kvO_out fun p hp e => c ⟨p, hp, e⟩] at hv; cases hv
      rw [← e, kvO_in on3.nk hp] at hv
      cases hv
      have hpl := (on3.l p hp).1
      have lo : (outs (us.take i) p.1).length ≤ 1000 := by
        unfold outs
        rw [List.length_map]
        have := List.length_filter_le (fun u => decide (u.1 = p.1)) (us.take i)
        rw [List.length_take] at this
        omega
      refine ⟨.inl ⟨rfl, _, SqL.of hpl⟩, ?_⟩
      walk_at "ws"
      refine r_app hpl (by rw [List.length_map]; omega) ?_
      walk_at "ws"
      have eu : u = (p.1, u.2) := Prod.ext e.symm rfl
      refine ⟨ps, _, _, rfl, g03.mut (on3.l p hp).2 (fun _ e => nomatch e), by rw [tk, eu]; exact on3.more hp u.2, hps⟩
    · have hno : ∀ p ∈ ps, p.1 ≠ u.1 := fun p hp e => by rw [← e, kvO_in on3.nk hp] at hv; cases hv
      have ep : putK (kvO ps) (Sum.inl u.1) (.ref l) = kvO ps ++ [((Sum.inl u.1 : Key), V.ref l)] := kv_put (ks := ps.map (·.1)) (by unfold kvO; rw [List.map_map, List.map_map]; rfl) (fun z => by
        obtain ⟨p, hp, e⟩ := List.mem_map.mp z
        exact hno p hp e) _
      rw [ep]
      have nol : od ≠ l := ne_of on3.d h3 (by intro z; cases z)
      have h4 : (upd H3 od (.dK (kvO ps ++ [((Sum.inl u.1 : Key), V.ref l)]))) l = some (.lst []) := by rw [upd_ne nol.symm]; exact h3
      have g04 : G none H (upd H3 od (.dK (kvO ps ++ [((Sum.inl u.1 : Key), V.ref l)]))) := g03.mut hod (fun _ e => nomatch e)
      have nl : ∀ p ∈ ps, p.2 ≠ l := fun p hp e => by
        have := (on.l p hp).1
        rw [e, hl] at this; cases this
      refine ⟨.inl ⟨rfl, _, SqL.of h4⟩, ?_⟩
      walk_at "ws"
      refine r_app h4 (by simp) ?_
      walk_at "ws"
      refine ⟨ps ++ [(u.1, l)], _, _, rfl, g04.mut l0 (fun _ e => nomatch e), by rw [tk]; exact on3.new hno h3 l0 nl u.2, fun p hp => ?_⟩
      rcases List.mem_append.mp hp with h | h
      · exact hps p h
      · have e : p = (u.1, l) := by simpa using h
        subst e; exact um.1
  rintro σ H2 ⟨ps, u3, u4, rfl, g2, on, hps⟩
  rw [lx, List.take_of_length_le (Nat.le_refl _)] at on
  clear g1 h1
  walk_at "ws"
  intro fa hfa
  show tVar 0 _ _ _
  walk_at "ws"
  refine ⟨upd_same, [(Sum.inl y, .non)], rfl, by simp, ?_⟩
  have hfa0 : H fa = none := new_bk g2 hfa
  have nof : od ≠ fa := ne_of_none on.d hfa
  have g3 : G none H (upd (upd H2 fa (.dK [])) fa (.dK (mergeK [] [(Sum.inl y, .non)]))) := (g2.mut hfa0 (fun _ e => nomatch e)).mut hfa0 (fun _ e => nomatch e)
  have h3f : (upd (upd H2 fa (.dK [])) fa (.dK (mergeK [] [(Sum.inl y, .non)]))) fa = some (.dK [((Sum.inl y : Key), .non)]) := upd_same
  have on3 : On H (upd (upd H2 fa (.dK [])) fa (.dK (mergeK [] [(Sum.inl y, .non)]))) od ps us := on.keep fun b u _ e => by
    have n := ne_of_none e hfa
    rw [upd_ne n, upd_ne n]; exact e
  generalize upd (upd H2 fa (.dK [])) fa (.dK (mergeK [] [(Sum.inl y, .non)])) = H3 at g3 h3f on3 ⊢
  walk_at "ws"
  refine ⟨sz (by simp), fun qa H4 hqa g4 h4 => ?_⟩
  have hqa0 : H qa = none := new_bk g3 hqa
  have h4f := (g4 none).all _ _ h3f
  have nfq : fa ≠ qa := ne_of h4f h4 (by intro z; cases z)
  have on4 : On H H4 od ps us := on3.keep fun b u _ e => (g4 none).all _ _ e
  have npq : ∀ p ∈ ps, p.2 ≠ qa := fun p hp e => by
    have := (on3.l p hp).1
    rw [e, hqa] at this; cases this
  have noq : od ≠ qa := ne_of on4.d h4 (by intro z; cases z)
  have npf : ∀ p ∈ ps, p.2 ≠ fa := fun p hp e => by
    have := (on4.l p hp).1
    rw [e, h4f] at this; cases this
  walk_at "ws"
  refine ⟨fun μ σ H' => ∃ (kvs : List (Key × V)) (qs : List Int) (n : Nat) (v3 v4 v8 : Option V), σ = [some (.int y), some (.ref wa), some (.ref od), v3, v4, some (.ref fa), some (.ref qa), some (.int (n : Int)), v8] ∧ G none H H' ∧ On H H' od ps us ∧ H' fa = some (.dK kvs) ∧ (TreeK us y kvs qs ∧ (kvs, qs) = wSt us y n) ∧ H' qa = some (.lst (qs.map V.int)) ∧ Way m us y qs n ∧ μ = m.toNat - n,
    ⟨_, [((Sum.inl y : Key), .non)], [y], 0, _, _, _, rfl, g3.trans (g4 none), on4, h4f, ⟨.one, rfl⟩, h4, ⟨by simp, fun z hz => ?_, fun z hz => ?_, by simp, Nat.zero_le _, fun i k hi => absurd hi (Nat.not_lt_zero _)⟩, rfl⟩, ?_⟩
  · have e : z = y := by simpa using hz
    rw [e]; exact hy
  · have e : z = y := by simpa using hz
    rw [e]; exact .refl y
  rintro μ σ H5 ⟨kvs, qs, n, v3, v4, v8, rfl, g5, on5, h5f, ⟨hkv, hst⟩, h5q, way, rfl⟩
  have few := way.few
  walk_at "ws"
  refine ⟨qa, _, rfl, .inl (SqL.of h5q), ?_⟩
  rw [List.length_map]
  walk_at "ws"
  refine w_ite (fun e => ?_) (fun e => ?_)
  · have hn : n < qs.length := by
      have e : (n : Int) < (qs.length : Int) := of_decide_eq_true e
      omega
    refine ⟨fun σ H' => ∃ (kvs : List (Key × V)) (qs' : List Int) (v3 v4 v8 : Option V), σ = [some (.int y), some (.ref wa), some (.ref od), v3, v4, some (.ref fa), some (.ref qa), some (.int ((n + 1 : Nat) : Int)), v8] ∧ G none H H' ∧ On H H' od ps us ∧ H' fa = some (.dK kvs) ∧ (TreeK us y kvs qs' ∧ (kvs, qs') = wSt us y (n + 1)) ∧ H' qa = some (.lst (qs'.map V.int)) ∧ Way m us y qs' (n + 1), ?_, ?_⟩
    · rintro σ' H' ⟨kvs', qs', w3, w4, w8, rfl, q1, q2, q3, q4, q5, q6⟩
      have := q6.few
      have := q6.le
      refine ⟨m.toNat - (n + 1), by omega, kvs', qs', n + 1, _, _, _, rfl, q1, q2, q3, q4, q5, q6, rfl⟩
    · walk_at "ws"
      obtain ⟨here, hh⟩ : ∃ z, qs[n]? = some z := ⟨_, List.getElem?_eq_getElem hn⟩
      refine r_ixL (SqL.of h5q) (v := .int here) (at_of (j := n) rfl (by rw [List.getElem?_map, hh]; rfl)) ?_
      walk_at "ws"
      refine w_aug ⟨_, rfl, ?_⟩
      walk_at "ws"
      refine ⟨_, _, rfl, rfl, ?_⟩
      walk_at "ws"
      refine w_dget2 ?_
      walk_at "ws"
      refine ⟨od, rfl, .inl ⟨_, .inl on5.d⟩, ?_⟩
      walk_at "ws"
      refine ⟨sz (by simp), fun l0 H6 hl0 g6 h6 => ?_⟩
      have on6 : On H H6 od ps us := on5.keep fun b u _ e => (g6 none).all _ _ e
      have h6f := (g6 none).all _ _ h5f
      have h6q := (g6 none).all _ _ h5q
      have g06 := g5.trans (g6 none)
      refine ⟨_, DGet.k (k := Sum.inl here) on6.d, ?_⟩
      obtain ⟨l, el, hl, nlq, nlf⟩ : ∃ l, (valV (kvO ps) (Sum.inl here)).getD (.ref l0) = .ref l ∧ H6 l = some (.lst ((outs us here).map V.int)) ∧ l ≠ qa ∧ l ≠ fa := by
        by_cases c : ∃ p ∈ ps, p.1 = here
        · obtain ⟨p, hp, rfl⟩ := c
          exact ⟨p.2, by rw [kvO_in on6.nk hp]; rfl, (on6.l p hp).1, npq p hp, npf p hp⟩
        · refine ⟨l0, by rw [kvO_out fun p hp e => c ⟨p, hp, e⟩]; rfl, ?_, (ne_of_none h5q hl0).symm, (ne_of_none h5f hl0).symm⟩
          rw [on6.none_ fun p hp e => c ⟨p, hp, e⟩]
          exact h6
      rw [el]
      have reach_h : Reach us y here := way.reach _ (List.mem_of_getElem? hh)
      refine i_list (SqL.of hl) ?_
      refine for_it (walk_list (xs := (outs us here).map V.int)) (fun i σ H' => ∃ (kvs : List (Key × V)) (ext : List Int) (v4 : Option V), σ = [some (.int y), some (.ref wa), some (.ref od), v3, v4, some (.ref fa), some (.ref qa), some (.int ((n : Int) + 1)), some (.int here)] ∧ G none H H' ∧ On H H' od ps us ∧ H' l = some (.lst ((outs us here).map V.int)) ∧ H' fa = some (.dK kvs) ∧ (TreeK us y kvs (qs ++ ext) ∧ (kvs, qs ++ ext) = ((outs us here).take i).foldl (wAdd here) (wSt us y n)) ∧ H' qa = some (.lst ((qs ++ ext).map V.int)) ∧ (qs ++ ext).Nodup ∧ (∀ k ∈ qs ++ ext, (0 ≤ k ∧ k < m) ∧ Reach us y k) ∧ ∀ (j : Nat) (z : Int), j < i → (outs us here)[j]? = some z → z ∈ qs ++ ext)
        ⟨kvs, [], _, rfl, g06, on6, hl, h6f, ⟨by rw [List.append_nil]; exact hkv, by rw [List.append_nil, List.take_zero]; exact hst⟩, by rw [List.append_nil]; exact h6q, by rw [List.append_nil]; exact way.nd, fun k hk => by rw [List.append_nil] at hk; exact ⟨way.rng k hk, way.reach k hk⟩, fun j z hj => absurd hj (Nat.not_lt_zero _)⟩ (fun i σ H' _ ⟨_, _, _, _, _, _, q, _⟩ => SqL.of q) ?_ ?_
      · rintro i v σ _ H7 hi ⟨kvs, ext, v4, rfl, g7, on7, h7l, h7f, ⟨hkv7, hst7⟩, h7q, nd7, rg7, cov⟩ ⟨rfl, hv⟩
        rw [List.getElem?_map] at hv
        obtain ⟨x, hx, rfl⟩ := Option.map_eq_some_iff.mp hv
        have hxu : (here, x) ∈ us := outs_mem.mp (List.mem_of_getElem? hx)
        have l7 : ((qs ++ ext).length : Int) ≤ m := by
          have hm0 : 0 ≤ m := by omega
          have := List.Nodup.length_le_of_subset (l₂ := (List.range m.toNat).map fun (i : Nat) => (i : Int)) nd7 fun k hk => by
            have := (rg7 k hk).1
            exact List.mem_map.mpr ⟨k.toNat, List.mem_range.mpr (by omega), by omega⟩
          rw [List.length_map, List.length_range] at this
          omega
        have lk : kvs.length = (qs ++ ext).length := by
          have := congrArg List.length hkv7.keys
          simpa using this
        walk_at "ws"
        show tVar 4 _ _ _
        walk_at "ws"
        refine ⟨fa, _, rfl, DGet.k (k := Sum.inl x) h7f, ?_⟩
        rw [← valV_any, kv_any hkv7.keys]
        walk_at "ws"
        refine w_ite (fun e2 => ?_) (fun e2 => ?_)
        · have n2 : x ∉ qs ++ ext := by simpa using e2
          walk_at "ws"
          show tVar _ _ _ _
          walk_at "ws"
          refine ⟨fa, _, rfl, DPut.k (k := Sum.inl x) h7f (Nat.lt_of_le_of_lt (by omega : kvs.length ≤ 60) (by decide : (60 : Nat) < sizeLine)), ?_⟩
          rw [kv_put hkv7.keys n2]
          have h8f : (upd H7 fa (.dK (kvs ++ [((Sum.inl x : Key), V.int here)]))) fa = some (.dK (kvs ++ [((Sum.inl x : Key), V.int here)])) := upd_same
          have h8q : (upd H7 fa (.dK (kvs ++ [((Sum.inl x : Key), V.int here)]))) qa = some (.lst ((qs ++ ext).map V.int)) := by rw [upd_ne nfq.symm]; exact h7q
          have h8l : (upd H7 fa (.dK (kvs ++ [((Sum.inl x : Key), V.int here)]))) l = some (.lst ((outs us here).map V.int)) := by rw [upd_ne nlf]; exact h7l
          have g8 : G none H (upd H7 fa (.dK (kvs ++ [((Sum.inl x : Key), V.int here)]))) := g7.mut hfa0 (fun _ e => nomatch e)
          have on8 : On H (upd H7 fa (.dK (kvs ++ [((Sum.inl x : Key), V.int here)]))) od ps us := on7.keep fun b u hb e => by
            have n : b ≠ fa := by
              rcases hb with rfl | ⟨p, hp, rfl⟩
              · exact nof
              · exact npf p hp
            rw [upd_ne n]; exact e
          generalize upd H7 fa (.dK (kvs ++ [((Sum.inl x : Key), V.int here)])) = H8 at h8f h8q h8l g8 on8 ⊢
          walk_at "ws"
          refine i_BM h8q ?_
          walk_at "ws"
          refine r_app h8q (by rw [List.length_map]; omega) ?_
          walk_at "ws"
          refine ⟨_, ext ++ [x], _, rfl, g8.mut hqa0 (fun _ e => nomatch e), on8.keep fun b u hb e => ?_, by rw [upd_ne nlq]; exact h8l, by rw [upd_ne nfq]; exact h8f, ?_, ?_, ?_, fun k hk => ?_, fun j z hj hz => ?_⟩
          · have n : b ≠ qa := by
              rcases hb with rfl | ⟨p, hp, rfl⟩
              · exact noq
              · exact npq p hp
            rw [upd_ne n]; exact e
          · rw [← List.append_assoc]; exact ⟨hkv7.more (List.mem_append_left _ (List.mem_of_getElem? hh)) hxu n2, wSt_app hst7 hx n2⟩
          · rw [upd_same]; simp [List.map_append, List.append_assoc]
          · rw [← List.append_assoc]
            exact List.nodup_append.mpr ⟨nd7, by simp, fun a ha b hb e => by
              have eb : b = x := by simpa using hb
              exact n2 (by rw [← eb, ← e]; exact ha)⟩
          · rw [← List.append_assoc] at hk
            rcases List.mem_append.mp hk with h | h
            · exact rg7 k h
            · have e : k = x := by simpa using h
              rw [e]; exact ⟨(hus _ hxu).2, .step reach_h hxu⟩
          · rw [← List.append_assoc]
            rcases Nat.lt_succ_iff_lt_or_eq.mp hj with h | h
            · exact List.mem_append_left _ (cov j z h hz)
            · subst h
              rw [hx] at hz
              cases hz
              exact List.mem_append_right _ (by simp)
        · have n2 : x ∈ qs ++ ext := of_decide_eq_true (by cases h : decide (x ∈ qs ++ ext) with | true => rfl | false => rw [h] at e2; cases e2)
          walk_at "ws"
          refine ⟨kvs, ext, _, rfl, g7, on7, h7l, h7f, ⟨hkv7, wSt_skip hst7 hx n2⟩, h7q, nd7, rg7, fun j z hj hz => ?_⟩
          rcases Nat.lt_succ_iff_lt_or_eq.mp hj with h | h
          · exact cov j z h hz
          · subst h
            rw [hx] at hz
            cases hz
            exact n2
      · rintro σ H7 ⟨kvs, ext, v4, rfl, g7, on7, h7l, h7f, ⟨hkv7, hst7⟩, h7q, nd7, rg7, cov⟩
        rw [List.length_map] at cov
        rw [List.length_map, List.take_length] at hst7
        refine ⟨kvs, qs ++ ext, _, _, _, rfl, g7, on7, h7f, ⟨hkv7, wSt_row hst hh hst7⟩, h7q, ⟨nd7, fun k hk => (rg7 k hk).1, fun k hk => (rg7 k hk).2, List.mem_append_left _ way.begin_, by rw [List.length_append]; omega, fun i k hi hk z hz => ?_⟩⟩
        by_cases c : i < n
        · rw [List.getElem?_append_left (by omega)] at hk
          exact List.mem_append_left _ (way.shut i k c hk z hz)
        · have ei : i = n := by omega
          subst ei
          rw [List.getElem?_append_left hn, hh] at hk
          cases hk
          obtain ⟨j, hj, ej⟩ := List.getElem_of_mem (outs_mem.mpr hz)
          exact cov j z hj (by rw [← ej]; exact List.getElem?_eq_getElem hj)
  · have hn : n = qs.length := by
      have := way.le
      have e : ¬ (n : Int) < (qs.length : Int) := of_decide_eq_false e
      omega
    walk_at "ws"
    exact k fa kvs qs H5 hfa0 g5 h5f hkv way.nd way.rng (way.all hn) (wSt_end hst hn (by omega))

end
end Mine
/-! ## K10 -/


namespace Mine
section
variable {P : Program} {w : World} {K : PySem.W.Frag} {mg : Str → Option Value} {base : Heap} {a : Ads}

/-! ### a diary bent -/
/-- a diary of x -/
structure IsDia (ws : List Int) (x : Int) (d : List Int) : Prop where
  nd : d.Nodup
  rng : ∀ p ∈ d, 0 ≤ p ∧ p < ws.length
  own : ∀ (p : Nat), ws[p]? = some x → (p : Int) ∈ d
theorem IsDia.perm {ws : List Int} {x : Int} {d d' : List Int} (h : IsDia ws x d) (p : d'.Perm d) : IsDia ws x d' := ⟨p.nodup_iff.mpr h.nd, fun q hq => h.rng q (p.mem_iff.mp hq), fun q hq => p.mem_iff.mpr (h.own q hq)⟩
theorem keep_ints {c : Int → Prop} [DecidablePred c] : ∀ own : List Int, (own.filterMap fun p => if c p then none else some (PyData.int p)) = (own.filter fun p => !decide (c p)).map PyData.int
  | [] => rfl
  | p :: l => by
    rw [List.filterMap_cons, List.filter_cons]
    by_cases h : c p
    · simp only [h, if_true, decide_true, Bool.not_true, Bool.false_eq_true, if_false]
      exact keep_ints l
    · simp only [h, if_false, decide_false, Bool.not_false, if_true, List.map_cons]
      rw [keep_ints l]
theorem keep_nats {c : Int → Prop} [DecidablePred c] : ∀ l : List Nat, (l.filterMap fun (p : Nat) => if c (p : Int) then none else some (PyData.int (p : Int))) = ((l.filter fun (p : Nat) => !decide (c (p : Int))).map fun (p : Nat) => (p : Int)).map PyData.int
  | [] => rfl
  | p :: l => by
    rw [List.filterMap_cons, List.filter_cons]
    by_cases h : c (p : Int)
    · simp only [h, if_true, decide_true, Bool.not_true, Bool.false_eq_true, if_false]
      exact keep_nats l
    · simp only [h, if_false, decide_false, Bool.not_false, if_true, List.map_cons]
      rw [keep_nats l]
theorem cut_from (xs : List V) {k : Nat} (h : k + 1 ≤ xs.length) : cutV xs (some ((k : Int) + 1)) none = xs.drop (k + 1) := by
  have e : ((k : Int) + 1) = ((k + 1 : Nat) : Int) := by omega
  unfold cutV
  rw [HT.sIx_none, e, HT.sIx_nat, Nat.min_eq_left h]
  exact List.take_of_length_le (by rw [List.length_drop]; exact Nat.le_refl _)
theorem ix_nat {n i : Nat} (h : i < n) : ixN n (i : Int) = some i := by
  unfold ixN
  rw [if_pos (by omega), if_pos (by omega)]
  simp
theorem ix_nat' {n i : Nat} (h : i + 1 < n) : ixN n ((i : Int) + 1) = some (i + 1) := by
  have := ix_nat h
  rw [← this]
  congr 1
theorem swap_perm : ∀ (l : List Int) (i : Nat) (h : i + 1 < l.length), ((l.set i l[i + 1]).set (i + 1) (l[i]'(by omega))).Perm l
  | a :: b :: t, 0, _ => List.Perm.swap ..
  | [a], 0, h => by simp at h
  | a :: t, i + 1, h => by
    have h' : i + 1 < t.length := by simpa using h
    exact (swap_perm t i h').cons a
theorem IsDia.less {ws : List Int} {x : Int} {d : List Int} {v : Int} {j : Nat} (h : IsDia ws x d) (e : d[j]? = some v) (nx : ∀ w, ws[v.toNat]? = some w → w ≠ x) : IsDia ws x (d.eraseIdx j) := by
  refine ⟨h.nd.sublist (List.eraseIdx_sublist d j), fun q hq => h.rng q (List.mem_of_mem_eraseIdx hq), fun q hq => ?_⟩
  obtain ⟨i, hi⟩ := List.getElem?_of_mem (h.own q hq)
  have ne : i ≠ j := fun z => by
    subst z
    rw [hi] at e
    have e := Option.some.inj e
    subst e
    exact nx x (by rw [Int.toNat_natCast]; exact hq) rfl
  exact List.mem_eraseIdx_iff_getElem?.mpr ⟨i, ne, hi⟩
theorem IsDia.more {ws : List Int} {x : Int} {d d' : List Int} {v : Int} (h : IsDia ws x d) (n : v ∉ d) (hv : 0 ≤ v ∧ v < ws.length) (p : d'.Perm (v :: d)) : IsDia ws x d' := by
  refine ⟨p.nodup_iff.mpr (List.nodup_cons.mpr ⟨n, h.nd⟩), fun q hq => ?_, fun q hq => p.mem_iff.mpr (List.mem_cons_of_mem _ (h.own q hq))⟩
  rcases List.mem_cons.mp (p.mem_iff.mp hq) with e | e
  · rw [e]; exact hv
  · exact h.rng q e
theorem IsRec.dia {ws : List Int} {ds : List (List Int)} (h : IsRec ws ds) {x : Nat} {d : List Int} (e : ds[x]? = some d) : IsDia ws x d := ⟨h.nd d (List.mem_of_getElem? e), h.rng d (List.mem_of_getElem? e), fun p hp => h.own p x d hp (by rw [Int.toNat_natCast]; exact e)⟩
theorem IsRec.set {ws : List Int} {ds : List (List Int)} (h : IsRec ws ds) {x : Nat} {d : List Int} (hd : IsDia ws x d) : IsRec ws (ds.set x d) := by
  refine ⟨by rw [List.length_set]; exact h.m1, by rw [List.length_set]; exact h.m7, h.p30, fun w hw => by rw [List.length_set]; exact h.wr w hw, fun e he => ?_, fun e he => ?_, fun p w e hp he => ?_⟩
  · rcases List.mem_or_eq_of_mem_set he with z | z
    · exact h.nd e z
    · rw [z]; exact hd.nd
  · rcases List.mem_or_eq_of_mem_set he with z | z
    · exact h.rng e z
    · rw [z]; exact hd.rng
  · rw [List.getElem?_set] at he
    by_cases c : x = w.toNat
    · rw [if_pos c] at he
      split at he
      · cases he
        have wm := h.wr w (List.mem_of_getElem? hp)
        have ew : (x : Int) = w := by omega
        exact hd.own p (by rw [ew]; exact hp)
      · cases he
    · rw [if_neg c] at he
      exact h.own p w e hp he
def sp__law_bent (K : PySem.W.Frag) : Sp := fun vs H Q _ => ∃ (hd c wp dp : Addr) (ws : List Int) (ds : List (List Int)), vs = [.ref hd, .ref wp, .ref dp] ∧ Hand H hd c ∧ SqT K H wp (ws.map V.int) ∧ Dia K H dp ds ∧ IsRec ws ds ∧
  ∀ (p : Addr) (ds' : List (List Int)) H', G (some (hd, c)) H H' → Hand H' hd c → Dia K H' p ds' → IsRec ws ds' → ds'.length = ds.length → Q (.ref p) H'
theorem ok__law_bent (T : Txt K mg a) : FnOk P w K mg base CX0 2 a.f__law_bent a.d__law_bent P__law_bent (sp__law_bent K) := by
  refine T.F__law_bent.ok sc__law_bent (fun vs H Q E h => by obtain ⟨hd, c, wp, dp, ws, ds, rfl, _⟩ := h; rfl) (fun cdv A outer s H vs Q E hr h => ?_)
  obtain ⟨hd, c, wp, dp, ws, ds, rfl, hh, hw, hdia, rec, k⟩ := h
  have G__law_draw : FnOk P w K mg base CX0 1 a.f__law_draw a.d__law_draw P__law_draw sp__law_draw := ok__law_draw T
  have m1 := rec.m1
  have m7 := rec.m7
  have p30 := rec.p30
  have hhp : ∀ p, some (hd, c) = some p → Hand H p.1 p.2 := fun p e => by cases e; exact hh
  refine ⟨_, (pss_cons (ps_set (i := 3) sc__law_bent.nd rfl (Or.inr rfl) (pe_call (G__law_draw) (hr.mono (by omega)) rfl T.m__law_draw T.F__law_draw.kp T.b__law_draw .nil pass0 (pa_cons (pv 0) (pa_cons (pe_callB call_len_seq (by rfl) T.n_len (by decide +kernel) (pa_cons (pv 2) pa_nil)) pa_nil))))
  (pss_cons (ps_set (i := 4) sc__law_bent.nd rfl (Or.inr rfl) (pe_callTy call_listN (by rfl) T.n_list (by decide +kernel) (pa_cons (pe_ix ix_tup (pv 2) (pv 3) (fun _ _ => rfl)) pa_nil)))
  (pss_cons (ps_set (i := 5) sc__law_bent.nd rfl (Or.inl rfl) (pe_call (G__law_draw) (hr.mono (by omega)) rfl T.m__law_draw T.F__law_draw.kp T.b__law_draw .nil pass0 (pa_cons (pv 0) (pa_cons pe_int pa_nil))))
  (pss_cons (ps_if (L2.PW.pt (pw_and (pt_cmpR op_eq (pv 5) pe_int (nomark _)) (pw_and1 (pt_cmpR op_gt (pe_callB call_len_seq (by rfl) T.n_len (by decide +kernel) (pa_cons (pv 4) pa_nil)) pe_int (nomark _)))))
    (pss_cons (ps_set (i := 6) sc__law_bent.nd rfl (Or.inl rfl) (pe_call (G__law_draw) (hr.mono (by omega)) rfl T.m__law_draw T.F__law_draw.kp T.b__law_draw .nil pass0 (pa_cons (pv 0) (pa_cons (pe_op op_sub (pe_callB call_len_seq (by rfl) T.n_len (by decide +kernel) (pa_cons (pv 4) pa_nil)) pe_int) pa_nil))))
  (pss_one (ps_asg (pe_tupN (pa_cons (pe_ix ix_list (pv 4) (pe_op op_add (pv 6) pe_int) (fun _ _ => rfl)) (pa_cons (pe_ix ix_list (pv 4) (pv 6) (fun _ _ => rfl)) pa_nil))) (pg_tup rfl (pgs_cons (pg_sub (pv 4) (pv 6) set_list) (pgs_cons (pg_sub (pv 4) (pe_op op_add (pv 6) pe_int) set_list) pgs_nil))))))
    pss_nil)
  (pss_cons (ps_setLc (i := 7) (own := [("_law_put", 9)]) (g := (gName 9))  rfl sc__law_bent.nd rfl rfl (sw_true rfl rfl rfl (by decide +kernel)) (pi_list (pv 4)) (blkOk_by (N := N__law_bent) (sc := defScope s__law_bent) (by decide +kernel)) (fun _ _ _ _ _ => (pg_name (i := 9) sc__law_bent.nd rfl (by first | exact Or.inl rfl | exact Or.inr rfl))) (fun _ _ _ _ _ => (pts_one (pt_cmpR op_ne (pe_ix (k_ix_tup K) (pv 1) (pv 9) (fun _ _ => rfl)) (pv 3) (nomark _)))) (fun _ _ _ _ _ => (pv 9)))
  (pss_cons (ps_if (L2.PW.pt (pw_and (pt_cmpR op_eq (pv 5) pe_int (nomark _)) (pw_and1 (pt_cmpR op_gt (pe_callB call_len_seq (by rfl) T.n_len (by decide +kernel) (pa_cons (pv 7) pa_nil)) pe_int (nomark _)))))
    (pss_one (ps_expr (pe_bm PySem.F.plainAttrs_list PySem.F.slot_list_remove PySem.F.type_list_remove mt_remove (pv 4) (pa_cons (pe_ix ix_list (pv 7) (pe_call (G__law_draw) (hr.mono (by omega)) rfl T.m__law_draw T.F__law_draw.kp T.b__law_draw .nil pass0 (pa_cons (pv 0) (pa_cons (pe_callB call_len_seq (by rfl) T.n_len (by decide +kernel) (pa_cons (pv 7) pa_nil)) pa_nil))) (fun _ _ => rfl)) pa_nil))))
    pss_nil)
  (pss_cons (ps_setLc (i := 8) (own := [("_law_put", 9)]) (g := (gName 9))  rfl sc__law_bent.nd rfl rfl (sw_true rfl rfl rfl (by decide +kernel)) (pi_range1 rfl T.n_range (pa_cons (pe_callB call_len_seq (by rfl) T.n_len (by decide +kernel) (pa_cons (pv 1) pa_nil)) pa_nil)) (blkOk_by (N := N__law_bent) (sc := defScope s__law_bent) (by decide +kernel)) (fun _ _ _ _ _ => (pg_name (i := 9) sc__law_bent.nd rfl (by first | exact Or.inl rfl | exact Or.inr rfl))) (fun _ _ _ _ _ => (pts_one (pt_cmpR (k_op_notIn_seq K) (pv 9) (pv 4) (by rfl)))) (fun _ _ _ _ _ => (pv 9)))
  (pss_cons (ps_if (L2.PW.pt (pw_and (pt_cmpR op_eq (pv 5) pe_int (nomark _)) (pw_and1 (pt_cmpR op_gt (pe_callB call_len_seq (by rfl) T.n_len (by decide +kernel) (pa_cons (pv 8) pa_nil)) pe_int (nomark _)))))
    (pss_one (ps_expr (pe_bm PySem.F.plainAttrs_list PySem.F.slot_list_insert PySem.F.type_list_insert mt_insert (pv 4) (pa_cons (pe_call (G__law_draw) (hr.mono (by omega)) rfl T.m__law_draw T.F__law_draw.kp T.b__law_draw .nil pass0 (pa_cons (pv 0) (pa_cons (pe_op op_add (pe_callB call_len_seq (by rfl) T.n_len (by decide +kernel) (pa_cons (pv 4) pa_nil)) pe_int) pa_nil))) (pa_cons (pe_ix ix_list (pv 8) (pe_call (G__law_draw) (hr.mono (by omega)) rfl T.m__law_draw T.F__law_draw.kp T.b__law_draw .nil pass0 (pa_cons (pv 0) (pa_cons (pe_callB call_len_seq (by rfl) T.n_len (by decide +kernel) (pa_cons (pv 8) pa_nil)) pa_nil))) (fun _ _ => rfl)) pa_nil)))))
    pss_nil)
  (pss_one (ps_ret (pe_op op_catN (pe_op op_catN (pe_slice sl_tupAN (pv 2) po_none (po_some (pv 3))) (pe_tupN (pa_cons (pe_callTy call_tupleF (by rfl) T.n_tuple (by decide +kernel) (pa_cons (pv 4) pa_nil)) pa_nil))) (pe_slice sl_tupAN (pv 2) (po_some (pe_op op_add (pv 3) pe_int)) po_none)))))))))))), ?_⟩
  walk_at "ws"
  obtain ⟨bs, hbs, lb, hb⟩ := id hdia
  refine ⟨dp, _, rfl, .inr hbs, ?_⟩
  walk_at "ws"
  rw [List.length_map]
  refine ⟨hd, c, _, rfl, hh, by omega, by omega, fun r H1 r0 r1 g1 hh1 => ?_⟩
  obtain ⟨x, rfl⟩ : ∃ x : Nat, r = (x : Int) := ⟨r.toNat, by omega⟩
  obtain ⟨b, hbx⟩ : ∃ b, bs[x]? = some b := ⟨_, List.getElem?_eq_getElem (by omega)⟩
  obtain ⟨d, hdx⟩ : ∃ d, ds[x]? = some d := ⟨_, List.getElem?_eq_getElem (by omega)⟩
  have hf := FrzT.g (hb x b d hbx hdx) g1 hhp
  have isd := rec.dia hdx
  walk_at "ws"
  refine r_ixT (sqT_t g1.tups hbs) (v := .ref b) (at_of (j := x) rfl (by rw [List.getElem?_map, hbx]; rfl)) ?_
  refine ⟨b, _, rfl, .inr hf.sq, fun O H2 hO g2 h2 => ?_⟩
  have hO0 : H O = none := new_back g1 hh1 hO
  have offO : ∀ p, some (hd, c) = some p → O ≠ p.1 := fun p e => by cases e; exact hh.ne hO0
  walk_at "ws"
  have hh2 : Hand H2 hd c := (g2 (some (hd, c))).hand _ rfl hh1
  refine ⟨hd, c, 3, rfl, hh2, by decide, by decide, fun kind H3 _ _ g3 hh3 => ?_⟩
  have h3 := g3.keep O _ offO h2
  have g03 := (g1.trans (g2 _)).trans g3
  walk_at "wn"
  dsimp only
  refine w_seqM (fun σ H' => ∃ (own : List Int) (u6 u7 u8 u9 : Option V), σ = [some (.ref hd), some (.ref wp), some (.ref dp), some (.int (x : Int)), some (.ref O), some (.int kind), u6, u7, u8, u9] ∧ G (some (hd, c)) H H' ∧ H' O = some (.lst (own.map V.int)) ∧ IsDia ws x own) (fun N kN => ?_) ?_
  · walk_at "ws"
    refine w_ite (fun e => ?_) (fun e => ?_)
    · walk_at "ws"
      refine ⟨O, _, rfl, .inl (SqL.of h3), ?_⟩
      walk_at "ws"
      rw [List.length_map]
      refine w_ite (fun e2 => ?_) (fun e2 => ?_)
      · have big : (1 : Int) < (d.length : Int) := of_decide_eq_true e2
        have dl := diary_len isd.nd isd.rng
        walk_at "ws"
        refine ⟨O, _, rfl, .inl (SqL.of h3), ?_⟩
        walk_at "ws"
        rw [List.length_map]
        refine ⟨hd, c, _, rfl, hh3, by omega, by omega, fun r H4 r0 r1 g4 hh4 => ?_⟩
        obtain ⟨i, rfl⟩ : ∃ i : Nat, r = (i : Int) := ⟨r.toNat, by omega⟩
        have h4 := g4.keep O _ offO h3
        have hi : i + 1 < d.length := by omega
        walk_at "ws"
        refine r_ixL (SqL.of h4) (v := .int d[i + 1]) (at_of (j := i + 1) (by omega) (by rw [List.getElem?_map, List.getElem?_eq_getElem hi]; rfl)) ?_
        walk_at "ws"
        refine r_ixL (SqL.of h4) (v := .int d[i]) (at_of (j := i) rfl (by rw [List.getElem?_map, List.getElem?_eq_getElem (by omega)]; rfl)) ?_
        walk_at "ws"
        refine ⟨sz (by simp), fun t H5 ht g5 h5 => ?_⟩
        have h5O := (g5 none).all _ _ h4
        refine ⟨t, _, rfl, SqT.of h5, rfl, ?_⟩
        refine ⟨_, _, rfl, ?_⟩
        walk_at "ws"
        refine ⟨O, _, _, i, rfl, rfl, h5O, ix_nat (by rw [List.length_map]; omega), ?_⟩
        refine ⟨_, _, rfl, ?_⟩
        walk_at "ws"
        refine ⟨O, _, _, i + 1, rfl, rfl, upd_same, ix_nat' (by rw [List.length_set, List.length_map]; omega), ?_⟩
        have e3 : (((d.map V.int).set i (.int d[i + 1])).set (i + 1) (.int d[i])) = (((d.set i d[i + 1]).set (i + 1) d[i]).map V.int) := by rw [List.map_set, List.map_set]
        refine ⟨rfl, ?_⟩
        refine kN _ _ ?_
        refine ⟨_, _, _, _, _, rfl, ((((g03.trans g4).trans (g5 _)).mut hO0 hhp).mut hO0 hhp), by rw [upd_same, e3], isd.perm (swap_perm d i hi)⟩
      · walk_at "ws"
        exact kN _ _ ⟨d, _, _, _, _, rfl, g03, h3, isd⟩
    · walk_at "ws"
      exact kN _ _ ⟨d, _, _, _, _, rfl, g03, h3, isd⟩
  · clear h3 g03 hh3 g3 hh2 g2 h2
    rintro σ H3 ⟨own, u6, u7, u8, u9, rfl, g03, h3, isd⟩
    have hh3 : Hand H3 hd c := g03.hand (hd, c) rfl hh
    have ol := diary_len isd.nd isd.rng
    have hw3 := sqT_t g03.tups hw
    walk_at "ws"
    refine i_list (SqL.of h3) ?_
    intro D hD
    refine lc_pure (K := K) (o := none) (walk_list (xs := own.map V.int)) (by rw [List.length_map]; omega) hD (fun _ e => nomatch e) (fun i => own[i]?.bind fun p => if ws[p.toNat]? = some (x : Int) then none else some (PyData.int p)) (fun H' g => SqL.of (g.all _ _ h3)) ?_ ?_
    · rintro i v _ H4 hi g4 ⟨rfl, hv⟩ Qy Qn ky kn
      rw [List.getElem?_map] at hv
      obtain ⟨p, hp, rfl⟩ := Option.map_eq_some_iff.mp hv
      have pm := isd.rng p (List.mem_of_getElem? hp)
      obtain ⟨w0, hw0⟩ : ∃ w0, ws[p.toNat]? = some w0 := ⟨_, List.getElem?_eq_getElem (by omega)⟩
      walk_at "ws"
      refine ⟨rfl, ?_⟩
      walk_at "ws"
      refine r_ixT (sqT_t g4.tups hw3) (v := .int w0) (at_of (j := p.toNat) (by omega) (by rw [List.getElem?_map, hw0]; rfl)) ?_
      walk_at "ws"
      refine w_ite (fun e => ?_) (fun e => ?_)
      · walk_at "ws"
        have e' : ¬ w0 = (x : Int) := by simpa using e
        exact ky _ _ _ G.refl (.int p) rfl (by rw [hp, Option.bind_some, hw0, if_neg (fun z => e' (Option.some.inj z))])
      · have e' : w0 = (x : Int) := by simpa using e
        exact kn _ G.refl (by rw [hp, Option.bind_some, hw0, if_pos (by rw [e'])])
    intro xs H4 g4 hD4 hds hnl
    rw [List.length_map, filterMap_range_fm] at hds
    have e4 : (own.filterMap fun p => if ws[p.toNat]? = some (x : Int) then none else some (PyData.int p)) = (own.filter fun p => !decide (ws[p.toNat]? = some (x : Int))).map PyData.int := by
      exact keep_ints own
    rw [e4] at hds
    obtain rfl := DpAll.of_ints hds
    have h4 := g4.all _ _ h3
    have g04 := g03.trans g4.up
    have hh4 : Hand H4 hd c := g04.hand (hd, c) rfl hh
    have hD0 : H D = none := new_back g03 hh3 hD
    have offD : ∀ p, some (hd, c) = some p → D ≠ p.1 := fun p e => by cases e; exact hh.ne hD0
    walk_at "wn"
    dsimp only
    refine w_seqM (fun σ H' => ∃ (own : List Int) (u6 u7 u8 u9 : Option V), σ = [some (.ref hd), some (.ref wp), some (.ref dp), some (.int (x : Int)), some (.ref O), some (.int kind), u6, u7, u8, u9] ∧ G (some (hd, c)) H H' ∧ H' O = some (.lst (own.map V.int)) ∧ IsDia ws x own) (fun N kN => ?_) ?_
    · walk_at "ws"
      refine w_ite (fun e => ?_) (fun e => ?_)
      · walk_at "ws"
        refine ⟨D, _, rfl, .inl (SqL.of hD4), ?_⟩
        walk_at "ws"
        rw [List.length_map]
        refine w_ite (fun e2 => ?_) (fun e2 => ?_)
        · have big := of_decide_eq_true e2
          have fl := List.length_filter_le (fun p : Int => !decide (ws[p.toNat]? = some (x : Int))) own
          walk_at "ws"
          refine i_BM h4 ?_
          walk_at "ws"
          refine ⟨D, _, rfl, .inl (SqL.of hD4), ?_⟩
          walk_at "ws"
          rw [List.length_map]
          refine ⟨hd, c, _, rfl, hh4, by omega, by omega, fun r H5 r0 r1 g5 hh5 => ?_⟩
          have hD5 := g5.keep D _ offD hD4
          have h5 := g5.keep O _ offO h4
          obtain ⟨v, hv⟩ : ∃ v, (own.filter fun p => !decide (ws[p.toNat]? = some (x : Int)))[r.toNat]? = some v := ⟨_, List.getElem?_eq_getElem (by omega)⟩
          have vm := List.mem_filter.mp (List.mem_of_getElem? hv)
          refine r_ixL (SqL.of hD5) (v := .int v) (at_of (j := r.toNat) (by omega) (by rw [List.getElem?_map, hv]; rfl)) ?_
          walk_at "ws"
          refine ⟨O, own, v, own.idxOf v, rfl, rfl, h5, idx_at vm.1, fun m hm e => ?_, ?_⟩
          · have := idx_of isd.nd e
            omega
          walk_at "ws"
          refine kN _ _ ?_
          exact ⟨_, _, _, _, _, rfl, (g04.trans g5).mut hO0 hhp, upd_same, isd.less (idx_at vm.1) fun w hw z => by
            have q := vm.2
            rw [hw, z] at q
            simp at q⟩
        · walk_at "ws"
          exact kN _ _ ⟨own, _, _, _, _, rfl, g04, h4, isd⟩
      · walk_at "ws"
        exact kN _ _ ⟨own, _, _, _, _, rfl, g04, h4, isd⟩
    clear hnl g04 g4 hds hD4 h4 hh4 g03 h3 hh3 isd ol e4 offD hD0 hD hw3
    clear own
    rintro σ H3 ⟨own, u6, u7, u8, u9, rfl, g03, h3, isd⟩
    have hh3 : Hand H3 hd c := g03.hand (hd, c) rfl hh
    have ol := diary_len isd.nd isd.rng
    have hw3 := sqT_t g03.tups hw
    walk_at "ws"
    refine ⟨wp, _, rfl, .inr hw3, ?_⟩
    walk_at "ws"
    rw [List.length_map]
    refine i_rng1 (by omega) (by omega) ?_
    rw [Int.toNat_natCast]
    intro D hD
    refine lc_pure (K := K) (o := none) walk_range (by omega) hD (fun _ e => nomatch e) (fun (i : Nat) => if (i : Int) ∈ own then none else some (PyData.int (i : Int))) (fun _ _ => trivial) ?_ ?_
    · rintro i _ _ H4 hi g4 ⟨rfl, rfl⟩ Qy Qn ky kn
      walk_at "ws"
      refine ⟨rfl, ?_⟩
      walk_at "ws"
      refine ⟨O, _, rfl, .inl (SqL.of (g4.all _ _ h3)), rfl, by rw [List.all_map, List.all_eq_true]; intro q _; rfl, ?_⟩
      have ein : inV (.int (0 + (i : Int))) (own.map V.int) = decide ((i : Int) ∈ own) := by
        unfold inV
        rw [List.any_map, Bool.eq_iff_iff, List.any_eq_true, decide_eq_true_iff]
        constructor
        · rintro ⟨z, hz, e⟩
          have e : z = (i : Int) := by simpa [eqV] using e
          exact e ▸ hz
        · intro h
          exact ⟨_, h, by simp [eqV]⟩
      rw [ein]
      by_cases c : (i : Int) ∈ own
      · rw [decide_eq_true c]
        walk_at "ws"
        refine w_iteN rfl ?_
        exact kn _ G.refl (by rw [if_pos c])
      · rw [decide_eq_false c]
        walk_at "ws"
        refine w_iteE rfl ?_
        walk_at "ws"
        exact ky _ _ _ G.refl (.int _) rfl (by rw [if_neg c, Int.zero_add])
    intro xs H4 g4 hD4 hds hnl
    have e4 : ((List.range ws.length).filterMap fun (i : Nat) => if (i : Int) ∈ own then none else some (PyData.int (i : Int))) = (((List.range ws.length).filter fun (i : Nat) => !decide ((i : Int) ∈ own)).map fun (i : Nat) => (i : Int)).map PyData.int := keep_nats _
    rw [e4] at hds
    obtain rfl := DpAll.of_ints hds
    have h4 := g4.all _ _ h3
    have g04 := g03.trans g4.up
    have hh4 : Hand H4 hd c := g04.hand (hd, c) rfl hh
    have hD0 : H D = none := new_back g03 hh3 hD
    have offD : ∀ p, some (hd, c) = some p → D ≠ p.1 := fun p e => by cases e; exact hh.ne hD0
    walk_at "wn"
    dsimp only
    refine w_seqM (fun σ H' => ∃ (own : List Int) (u6 u7 u8 u9 : Option V), σ = [some (.ref hd), some (.ref wp), some (.ref dp), some (.int (x : Int)), some (.ref O), some (.int kind), u6, u7, u8, u9] ∧ G (some (hd, c)) H H' ∧ H' O = some (.lst (own.map V.int)) ∧ IsDia ws x own) (fun N kN => ?_) ?_
    · walk_at "ws"
      refine w_ite (fun e => ?_) (fun e => ?_)
      · walk_at "ws"
        refine ⟨D, _, rfl, .inl (SqL.of hD4), ?_⟩
        walk_at "ws"
        rw [List.length_map, List.length_map]
        refine w_ite (fun e2 => ?_) (fun e2 => ?_)
        · have big := of_decide_eq_true e2
          have fl := List.length_filter_le (fun i : Nat => !decide ((i : Int) ∈ own)) (List.range ws.length)
          rw [List.length_range] at fl
          walk_at "ws"
          refine i_BM h4 ?_
          walk_at "ws"
          refine ⟨O, _, rfl, .inl (SqL.of h4), ?_⟩
          walk_at "ws"
          rw [List.length_map]
          refine ⟨hd, c, _, rfl, hh4, by omega, by omega, fun r H5 r0 r1 g5 hh5 => ?_⟩
          have hD5 := g5.keep D _ offD hD4
          walk_at "ws"
          refine ⟨D, _, rfl, .inl (SqL.of hD5), ?_⟩
          walk_at "ws"
          rw [List.length_map, List.length_map]
          refine ⟨hd, c, _, rfl, hh5, by omega, by omega, fun r2 H6 r20 r21 g6 hh6 => ?_⟩
          have hD6 := g6.keep D _ offD hD5
          have h6 := g6.keep O _ offO (g5.keep O _ offO h4)
          obtain ⟨v, hv⟩ : ∃ v, ((List.range ws.length).filter fun (i : Nat) => !decide ((i : Int) ∈ own))[r2.toNat]? = some v := ⟨_, List.getElem?_eq_getElem (by omega)⟩
          have vm := List.mem_filter.mp (List.mem_of_getElem? hv)
          have vr := List.mem_range.mp vm.1
          refine r_ixL (SqL.of hD6) (v := .int (v : Int)) (at_of (j := r2.toNat) (by omega) (by rw [List.getElem?_map, List.getElem?_map, hv]; rfl)) ?_
          walk_at "ws"
          refine ⟨O, _, r, .int (v : Int), rfl, rfl, h6, Nat.lt_of_le_of_lt (by rw [List.length_map]; omega : (own.map V.int).length ≤ 100000) (by decide), r0, by omega, ?_⟩
          walk_at "ws"
          refine kN _ _ ?_
          refine ⟨own.take r.toNat ++ [(v : Int)] ++ own.drop r.toNat, _, _, _, _, rfl, ((g04.trans g5).trans g6).mut hO0 hhp, by rw [upd_same, List.map_append, List.map_append, List.map_take, List.map_drop]; rfl, isd.more (v := (v : Int)) (by simpa using vm.2) (by omega) ?_⟩
          rw [List.append_assoc]
          refine List.perm_middle.trans ?_
          show ((v : Int) :: (own.take r.toNat ++ own.drop r.toNat)).Perm _
          rw [List.take_append_drop]
        · walk_at "ws"
          exact kN _ _ ⟨own, _, _, _, _, rfl, g04, h4, isd⟩
      · walk_at "ws"
        exact kN _ _ ⟨own, _, _, _, _, rfl, g04, h4, isd⟩
    clear hnl g04 g4 hds hD4 h4 hh4 g03 h3 hh3 isd ol e4 offD hD0 hD hw3
    clear own
    rintro σ H3 ⟨own, u6, u7, u8, u9, rfl, g03, h3, isd⟩
    have hh3 : Hand H3 hd c := g03.hand (hd, c) rfl hh
    have hbs3 := sqT_t g03.tups hbs
    have lx : x < bs.length := (List.getElem?_eq_some_iff.mp hbx).1
    walk_at "ws"
    refine ⟨dp, _, rfl, hbs3, fun p1 H4 g4 h4 => ?_⟩
    rw [cut_to _ (by rw [List.length_map]; omega), ← List.map_take] at h4
    walk_at "ws"
    refine ⟨O, _, rfl, SqL.of ((g4 none).all _ _ h3), fun t H5 ht g5 h5 => ?_⟩
    walk_at "ws"
    refine ⟨sz (by simp), fun q H6 hq g6 h6 => ?_⟩
    refine ⟨p1, q, _, _, rfl, rfl, sqT_t ((g5 none).trans (g6 none)).tups h4, SqT.of h6, by simp; omega, fun p2 H7 g7 h7 => ?_⟩
    walk_at "ws"
    have g37 := (((g4 none).trans (g5 none)).trans (g6 none)).trans (g7 none)
    refine ⟨dp, _, rfl, sqT_t g37.tups hbs3, fun p3 H8 g8 h8 => ?_⟩
    rw [cut_from _ (by rw [List.length_map]; omega), ← List.map_drop] at h8
    refine ⟨p2, p3, _, _, rfl, rfl, sqT_t (g8 none).tups h7, h8, by simp; omega, fun p4 H9 g9 h9 => ?_⟩
    have g39 := (g37.trans (g8 none)).trans (g9 none)
    have e9 : bs.take x ++ [t] ++ bs.drop (x + 1) = bs.set x t := by
      rw [List.set_eq_take_append_cons_drop, if_pos lx, List.append_assoc]; rfl
    have e10 : (bs.take x).map V.ref ++ [V.ref t] ++ (bs.drop (x + 1)).map V.ref = (bs.set x t).map V.ref := by
      rw [← e9, List.map_append, List.map_append]; rfl
    rw [e10] at h9
    have g09 := g03.trans g39.up
    refine k p4 (ds.set x own) H9 g09 (g09.hand (hd, c) rfl hh) ⟨bs.set x t, h9, by rw [List.length_set, List.length_set]; exact lb, fun i b' d' e1 e2 => ?_⟩ (rec.set isd) (by rw [List.length_set])
    rw [List.getElem?_set] at e1 e2
    by_cases c : x = i
    · rw [if_pos c, if_pos lx] at e1
      rw [if_pos c, if_pos (by omega)] at e2
      cases e1
      cases e2
      exact h5.n ((((g6 none).trans (g7 none)).trans (g8 none)).trans (g9 none))
    · rw [if_neg c] at e1 e2
      exact FrzT.g (hb i b' d' e1 e2) g09 hhp

end
end Mine
/-! ## K11 -/


namespace Mine
section
variable {P : Program} {w : World} {K : PySem.W.Frag} {mg : Str → Option Value} {base : Heap} {a : Ads}

/-! ### puts and letters led by drawn steps: words -/
theorem k_tupleF {X : Cx} (K : PySem.W.Frag) (hK : X.K = K := by rfl) : CallR X (.type "tuple") (rTupleF K) := by subst hK; exact call_tupleF
/-- the dict of letters: from a wire to the list of the letters on it -/
def keyOfP (u : Int × Int) : List L2.Key := [.inl u.1, .inl u.2]
def dtOf : List (Int × Int) → List Addr → List (List L2.Key × V)
  | u :: W, l :: ls => (keyOfP u, V.ref l) :: dtOf W ls
  | _, _ => []
theorem keyOfP_inj {u v : Int × Int} (e : keyOfP u = keyOfP v) : u = v := by
  unfold keyOfP at e
  simp only [List.cons.injEq, Sum.inl.injEq, and_true] at e
  exact Prod.ext e.1 e.2
theorem valT : ∀ {W : List (Int × Int)} {ls : List Addr} {i : Nat} {u : Int × Int} {l : Addr}, W.Nodup → W[i]? = some u → ls[i]? = some l → valV (dtOf W ls) (keyOfP u) = some (.ref l)
  | [], _, _, _, _, _, e, _ => by simp at e
  | _ :: _, [], _, _, _, _, _, e => by simp at e
  | v :: W, m :: ls, 0, u, l, _, e1, e2 => by
    simp only [List.getElem?_cons_zero, Option.some.injEq] at e1 e2
    subst e1 e2
    exact valV_pos rfl
  | v :: W, m :: ls, i + 1, u, l, nd, e1, e2 => by
    simp only [List.getElem?_cons_succ] at e1 e2
    have n := List.nodup_cons.mp nd
    refine (valV_neg (p := (keyOfP v, V.ref m)) fun z => ?_).trans (valT n.2 e1 e2)
    exact n.1 (keyOfP_inj z ▸ List.mem_of_getElem? e1)
/-- the pairs of which the dict is made -/
def mkL : List (Int × Int) → List Addr → List Addr → List Addr → List DPair
  | u :: W, b :: bs, t :: ts, l :: ls => ⟨t, keyOfP u, b, .ref l⟩ :: mkL W bs ts ls
  | _, _, _, _ => []
theorem mkL_at : ∀ {W : List (Int × Int)} {bs ts ls : List Addr}, bs.length = W.length → ts.length = W.length → ls.length = W.length → (mkL W bs ts ls).map (fun q => V.ref q.at_) = ts.map V.ref
  | [], [], [], [], _, _, _ => rfl
  | u :: W, b :: bs, t :: ts, l :: ls, h1, h2, h3 => by
    simp only [mkL, List.map_cons]
    rw [mkL_at (by simpa using h1) (by simpa using h2) (by simpa using h3)]
theorem mkL_dt : ∀ {W : List (Int × Int)} {bs ts ls : List Addr}, bs.length = W.length → ts.length = W.length → ls.length = W.length → (mkL W bs ts ls).map (fun q => (q.key, q.val)) = dtOf W ls
  | [], [], [], [], _, _, _ => rfl
  | u :: W, b :: bs, t :: ts, l :: ls, h1, h2, h3 => by
    simp only [mkL, dtOf, List.map_cons]
    rw [mkL_dt (by simpa using h1) (by simpa using h2) (by simpa using h3)]
theorem mkL_key : ∀ {W : List (Int × Int)} {bs ts ls : List Addr}, bs.length = W.length → ts.length = W.length → ls.length = W.length → (mkL W bs ts ls).map (fun q => q.key) = W.map keyOfP
  | [], [], [], [], _, _, _ => rfl
  | u :: W, b :: bs, t :: ts, l :: ls, h1, h2, h3 => by
    simp only [mkL, List.map_cons]
    rw [mkL_key (by simpa using h1) (by simpa using h2) (by simpa using h3)]
theorem mkL_mem : ∀ {W : List (Int × Int)} {bs ts ls : List Addr} {q : DPair}, q ∈ mkL W bs ts ls → ∃ (j : Nat) (u : Int × Int) (b t l : Addr), W[j]? = some u ∧ bs[j]? = some b ∧ ts[j]? = some t ∧ ls[j]? = some l ∧ q = ⟨t, keyOfP u, b, .ref l⟩
  | u :: W, b :: bs, t :: ts, l :: ls, q, h => by
    simp only [mkL, List.mem_cons] at h
    rcases h with rfl | h
    · exact ⟨0, u, b, t, l, rfl, rfl, rfl, rfl, rfl⟩
    · obtain ⟨j, u', b', t', l', h1, h2, h3, h4, h5⟩ := mkL_mem h
      exact ⟨j + 1, u', b', t', l', h1, h2, h3, h4, h5⟩
  | [], _, _, _, _, h => by simp [mkL] at h
  | _ :: _, [], _, _, _, h => by simp [mkL] at h
  | _ :: _, _ :: _, [], _, _, h => by simp [mkL] at h
  | _ :: _, _ :: _, _ :: _, [], _, h => by simp [mkL] at h
theorem rg_upto (n : Nat) : rgV 0 (n : Int) = (upto n).map V.int := by
  unfold rgV upto
  rw [List.map_map, Int.sub_zero, Int.toNat_natCast]
  refine List.map_congr_left fun i _ => ?_
  show V.int (0 + ((i : Nat) : Int)) = V.int ((i : Nat) : Int)
  rw [Int.zero_add]
theorem isweb_len49 {m : Int} {ws : List (Int × Int)} (h : IsWeb m ws) : ws.length ≤ 49 := by
  have hn : (ws.map fun u => (u.1 * 7 + u.2).toNat).Nodup := by
    have : (ws.map fun u => (u.1 * 7 + u.2).toNat).Pairwise (· < ·) := by
      rw [List.pairwise_map]
      refine List.Pairwise.imp_of_mem (fun {u v} hu hv huv => ?_) h.asc
      have h1 := h.mem u hu
      have h2 := h.mem v hv
      have := h.hi
      unfold ltP at huv
      omega
    exact this.imp fun h => Nat.ne_of_lt h
  have := List.Nodup.length_le_of_subset (l₂ := List.range 49) hn fun k hk => by
    obtain ⟨u, hu, rfl⟩ := List.mem_map.mp hk
    have h1 := h.mem u hu
    have := h.hi
    rw [List.mem_range]
    omega
  simpa using this
theorem web_nodup {m : Int} {W : List (Int × Int)} (h : IsWeb m W) : W.Nodup := h.asc.imp fun {a b} q e => by
  subst e
  rcases q with q | q <;> omega
/-- where the lists of a run are -/
structure RanA where
  dl : Addr
  lf : Addr
  st : Addr
  ld : Addr
  rs : List Addr
  ls : List Addr
structure RanN (H : Hp) (A : RanA) : Prop where
  dl : H A.dl = none
  lf : H A.lf = none
  st : H A.st = none
  ld : H A.ld = none
  rs : ∀ l ∈ A.rs, H l = none
  ls : ∀ l ∈ A.ls, H l = none
  n1 : A.dl ≠ A.lf
  n2 : A.dl ≠ A.st
  n3 : A.dl ≠ A.ld
  n4 : A.dl ∉ A.rs
  n5 : A.dl ∉ A.ls
  n6 : A.lf ≠ A.st
  n7 : A.lf ≠ A.ld
  n8 : A.lf ∉ A.rs
  n9 : A.lf ∉ A.ls
  n10 : A.st ≠ A.ld
  n11 : A.st ∉ A.rs
  n12 : A.st ∉ A.ls
  n13 : A.ld ∉ A.rs
  n14 : A.ld ∉ A.ls
  n15 : A.rs.Nodup
  n16 : A.ls.Nodup
  n17 : ∀ l ∈ A.rs, l ∉ A.ls
/-- lists of ints at these places -/
def Lists (H : Hp) (as : List Addr) (ns : List (List Int)) : Prop := as.length = ns.length ∧ ∀ (i : Nat) (a : Addr) (l : List Int), as[i]? = some a → ns[i]? = some l → H a = some (.lst (l.map V.int))
theorem Lists.mono {H H' : Hp} {as : List Addr} {ns : List (List Int)} (h : Lists H as ns) (k : ∀ a ∈ as, ∀ u, H a = some u → H' a = some u) : Lists H' as ns := ⟨h.1, fun i a l e1 e2 => k a (List.mem_of_getElem? e1) _ (h.2 i a l e1 e2)⟩
theorem Lists.set {H : Hp} {as : List Addr} {ns : List (List Int)} (h : Lists H as ns) (nd : as.Nodup) {x : Nat} {a : Addr} (ha : as[x]? = some a) (m : List Int) : Lists (upd H a (.lst (m.map V.int))) as (ns.set x m) := by
  refine ⟨by rw [List.length_set]; exact h.1, fun i b l e1 e2 => ?_⟩
  by_cases c : i = x
  · subst c
    rw [ha] at e1
    cases e1
    rw [List.getElem?_set_self (by rw [← h.1]; exact (List.getElem?_eq_some_iff.mp ha).1)] at e2
    cases e2
    exact upd_same
  · rw [List.getElem?_set_ne (fun z => c z.symm)] at e2
    have ne : b ≠ a := fun z => by
      subst z
      exact c (nd_ix nd e1 ha)
    rw [upd_ne ne]
    exact h.2 i b l e1 e2
/-- what they hold -/
structure RanS (W : List (Int × Int)) (A : RanA) (H : Hp) (ds : List (List Int)) (left : List Int) (lt : List (List Int)) (sv : List V) : Prop where
  dl : H A.dl = some (.lst (A.rs.map V.ref))
  lf : H A.lf = some (.lst (left.map V.int))
  st : H A.st = some (.lst sv)
  ld : H A.ld = some (.dT (dtOf W A.ls))
  rs : Lists H A.rs ds
  ls : Lists H A.ls lt
section
variable {W : List (Int × Int)} {A : RanA} {H H1 H2 : Hp} {ds lt : List (List Int)} {left : List Int} {sv : List V} {hd c : Addr}
theorem RanS.g (r : RanS W A H1 ds left lt sv) (N : RanN H A) (hh : Hand H hd c) (g : G (some (hd, c)) H1 H2) : RanS W A H2 ds left lt sv := by
  have off : ∀ a, H a = none → ∀ u, H1 a = some u → H2 a = some u := fun a n u e => g.keep a u (off_new hh n) e
  exact ⟨off _ N.dl _ r.dl, off _ N.lf _ r.lf, off _ N.st _ r.st, off _ N.ld _ r.ld, r.rs.mono fun a m => off a (N.rs a m), r.ls.mono fun a m => off a (N.ls a m)⟩
theorem ne_mem {a b : Addr} {l : List Addr} (h : a ∉ l) (m : b ∈ l) : b ≠ a := fun e => h (e ▸ m)
theorem RanS.left' (r : RanS W A H1 ds left lt sv) (N : RanN H A) (left' : List Int) : RanS W A (upd H1 A.lf (.lst (left'.map V.int))) ds left' lt sv :=
  ⟨by rw [upd_ne N.n1]; exact r.dl, upd_same, by rw [upd_ne N.n6.symm]; exact r.st, by rw [upd_ne N.n7.symm]; exact r.ld, r.rs.mono fun a m u e => by rw [upd_ne (ne_mem N.n8 m)]; exact e, r.ls.mono fun a m u e => by rw [upd_ne (ne_mem N.n9 m)]; exact e⟩
theorem RanS.step' (r : RanS W A H1 ds left lt sv) (N : RanN H A) (sv' : List V) : RanS W A (upd H1 A.st (.lst sv')) ds left lt sv' :=
  ⟨by rw [upd_ne N.n2]; exact r.dl, by rw [upd_ne N.n6]; exact r.lf, upd_same, by rw [upd_ne N.n10.symm]; exact r.ld, r.rs.mono fun a m u e => by rw [upd_ne (ne_mem N.n11 m)]; exact e, r.ls.mono fun a m u e => by rw [upd_ne (ne_mem N.n12 m)]; exact e⟩
theorem RanS.dia' (r : RanS W A H1 ds left lt sv) (N : RanN H A) {x : Nat} {l : Addr} (hl : A.rs[x]? = some l) (d : List Int) : RanS W A (upd H1 l (.lst (d.map V.int))) (ds.set x d) left lt sv := by
  have m := List.mem_of_getElem? hl
  exact ⟨by rw [upd_ne (ne_mem N.n4 m).symm]; exact r.dl, by rw [upd_ne (ne_mem N.n8 m).symm]; exact r.lf, by rw [upd_ne (ne_mem N.n11 m).symm]; exact r.st, by rw [upd_ne (ne_mem N.n13 m).symm]; exact r.ld, r.rs.set N.n15 hl d, r.ls.mono fun a ma u e => by rw [upd_ne (fun (z : a = l) => N.n17 l m (z ▸ ma))]; exact e⟩
theorem RanS.let' (r : RanS W A H1 ds left lt sv) (N : RanN H A) {j : Nat} {l : Addr} (hl : A.ls[j]? = some l) (d : List Int) : RanS W A (upd H1 l (.lst (d.map V.int))) ds left (lt.set j d) sv := by
  have m := List.mem_of_getElem? hl
  exact ⟨by rw [upd_ne (ne_mem N.n5 m).symm]; exact r.dl, by rw [upd_ne (ne_mem N.n9 m).symm]; exact r.lf, by rw [upd_ne (ne_mem N.n12 m).symm]; exact r.st, by rw [upd_ne (ne_mem N.n14 m).symm]; exact r.ld, r.rs.mono fun a ma u e => by rw [upd_ne (fun (z : a = l) => N.n17 a ma (z ▸ m))]; exact e, r.ls.set N.n16 hl d⟩
end
/-- what is true behind i turns -/
structure RanT (n : Nat) (ws : List Int) (most : Int) (i b : Nat) (ds : List (List Int)) (left : List Int) (lt : List (List Int)) (sv : List V) (more : Int) : Prop where
  ld : ds.length = n
  nd : ∀ d ∈ ds, d.Nodup
  rng : ∀ d ∈ ds, ∀ p ∈ d, 0 ≤ p ∧ p < (ws.length : Int)
  lr : ∀ p ∈ left, 0 ≤ p ∧ p < (ws.length : Int)
  tr : ∀ l ∈ lt, ∀ p ∈ l, 0 ≤ p ∧ p < (ws.length : Int)
  cnt : (i : Int) = ((ws.length : Int) - (left.length : Int)) + more
  ll : left.length ≤ ws.length
  m0 : 0 ≤ more
  mm : more ≤ most
  sl : sv.length ≤ i
  tl : ∀ l ∈ lt, l.length ≤ b
def Own (ws : List Int) (ds : List (List Int)) (left : List Int) (o : Option (Int × Int)) : Prop := ∀ (p : Nat) (w : Int) (d : List Int), ws[p]? = some w → ds[w.toNat]? = some d → (p : Int) ∈ d ∨ (p : Int) ∈ left ∨ o = some ((p : Int), w)
theorem mem_erase {left : List Int} {r : Nat} (h : r < left.length) {p : Int} (m : p ∈ left) : p = left[r] ∨ p ∈ left.eraseIdx r := by
  obtain ⟨i, hi⟩ := List.getElem?_of_mem m
  by_cases c : i = r
  · subst c
    exact .inl (by rw [List.getElem?_eq_getElem h] at hi; exact (Option.some.inj hi).symm)
  · exact .inr (List.mem_eraseIdx_iff_getElem?.mpr ⟨i, c, hi⟩)
theorem Own.put {ws : List Int} {ds : List (List Int)} {left : List Int} (h : Own ws ds left none) {r : Nat} (hr : r < left.length) {x : Int} (hx : ws[left[r].toNat]? = some x) (h0 : 0 ≤ left[r]) : Own ws ds (left.eraseIdx r) (some (left[r], x)) := fun p w d e1 e2 => by
  rcases h p w d e1 e2 with q | q | q
  · exact .inl q
  · rcases mem_erase hr q with z | z
    · refine .inr (.inr ?_)
      have e : left[r].toNat = p := by omega
      rw [e, e1] at hx
      rw [← z, Option.some.inj hx]
    · exact .inr (.inl z)
  · cases q
theorem Own.wk {ws : List Int} {ds : List (List Int)} {left : List Int} (h : Own ws ds left none) (o : Option (Int × Int)) : Own ws ds left o := fun p w d e1 e2 => by
  rcases h p w d e1 e2 with q | q | q
  · exact .inl q
  · exact .inr (.inl q)
  · cases q
theorem Own.had {ws : List Int} {ds : List (List Int)} {left : List Int} {put x : Int} (h : Own ws ds left (some (put, x))) {d : List Int} (hd : ds[x.toNat]? = some d) (hp : put ∈ d) : Own ws ds left none := fun p w d' e1 e2 => by
  rcases h p w d' e1 e2 with q | q | q
  · exact .inl q
  · exact .inr (.inl q)
  · cases q
    rw [hd] at e2
    cases e2
    exact .inl hp
theorem Own.app {ws : List Int} {ds : List (List Int)} {left : List Int} {put x : Int} (h : Own ws ds left (some (put, x))) {d : List Int} (hd : ds[x.toNat]? = some d) : Own ws (ds.set x.toNat (d ++ [put])) left none := fun p w d' e1 e2 => by
  rw [List.getElem?_set] at e2
  split at e2
  · rename_i c
    split at e2
    · cases e2
      rcases h p w d e1 (by rw [← c]; exact hd) with q | q | q
      · exact .inl (List.mem_append_left _ q)
      · exact .inr (.inl q)
      · cases q
        exact .inl (List.mem_append_right _ (List.mem_singleton.mpr rfl))
    · cases e2
  · rename_i c
    rcases h p w d' e1 e2 with q | q | q
    · exact .inl q
    · exact .inr (.inl q)
    · cases q
      exact absurd rfl c
theorem mem_set_list {α : Type} {l : List α} {i : Nat} {a b : α} (h : b ∈ l.set i a) : b ∈ l ∨ b = a := List.mem_or_eq_of_mem_set h
theorem ran_rec {n : Nat} {ws : List Int} {most : Int} {i b : Nat} {ds lt : List (List Int)} {sv : List V} {more : Int} (t : RanT n ws most i b ds [] lt sv more) (o : Own ws ds [] none) (n1 : 1 ≤ n) (n7 : n ≤ 7) (p30 : ws.length ≤ 30) (hws : ∀ w ∈ ws, 0 ≤ w ∧ w < (n : Int)) : IsRec ws ds :=
  ⟨by rw [t.ld]; exact n1, by rw [t.ld]; exact n7, p30, fun w hw => by rw [t.ld]; exact hws w hw, t.nd, t.rng, fun p w d e1 e2 => by
    rcases o p w d e1 e2 with q | q | q
    · exact q
    · cases q
    · cases q⟩
/-- wires out of all wires, as data -/
theorem ready_dp {K : PySem.W.Frag} {H : Hp} {bs : List Addr} {W : List (Int × Int)} (tup : TupAll H bs W) : ∀ {xs : List V}, (∀ v ∈ xs, ∃ (j : Nat) (b : Addr), v = .ref b ∧ bs[j]? = some b) → ∃ us : List (Int × Int), us.length = xs.length ∧ DpAll K H xs (us.map dP)
  | [], _ => ⟨[], rfl, .nil⟩
  | v :: xs, h => by
    obtain ⟨us, e, r⟩ := ready_dp (K := K) tup fun v hv => h v (List.mem_cons_of_mem _ hv)
    obtain ⟨j, b, rfl, hb⟩ := h v List.mem_cons_self
    have lj := (List.getElem?_eq_some_iff.mp hb).1
    have lw : j < W.length := by rw [← tup.1]; exact lj
    have hw : W[j]? = some W[j] := List.getElem?_eq_getElem lw
    exact ⟨W[j] :: us, by simp [e], .cons (dp_ofP (SqT.of (tup.2 j b _ hb hw))) r⟩
theorem sh_pairsL (us : List (Int × Int)) : SeqAt.shaped (.list (us.map dP)) = true := sh_of (by
    rw [PyData.canLay0]
    exact canAll fun d h => by
      obtain ⟨n, _, rfl⟩ := List.mem_map.mp h
      exact can_dP n) (by
    rw [PyData.depth]
    have := depAll (n := 1) (ds := us.map dP) fun d h => by
      obtain ⟨n, _, rfl⟩ := List.mem_map.mp h
      exact dep_dP n
    omega)
theorem not_in {H : Hp} {l : Addr} {as : List Addr} {u : HO} (h : H l = none) (k : ∀ x ∈ as, H x = some u) : l ∉ as := fun m => by rw [k l m] at h; cases h
theorem w_ifM {t : TT} {ts tu : TS} {D : Ends} {σ : L2.St} {H : Hp} (M : Bool → Hp → Prop) (h1 : ∀ N : Bool → Hp → Prop, (∀ b H', M b H' → N b H') → t σ H N) (h2 : ∀ b H', M b H' → if b = true then ts D σ H' else tu D σ H') : tIfS t ts tu D σ H := h1 _ h2
theorem pop_ix {ls : List Int} {r : Int} (r0 : 0 ≤ r) (rl : r.toNat < ls.length) : PySem.seqIndex? r (ls.map V.int).length = some r.toNat := by
  unfold PySem.seqIndex?
  rw [List.length_map]
  have n0 : ¬ r < 0 := by omega
  simp [n0]
  omega
theorem inV_ints (d : List Int) (z : Int) : inV (.int z) (d.map V.int) = decide (z ∈ d) := by
  unfold inV
  rw [List.any_map, Bool.eq_iff_iff, List.any_eq_true, decide_eq_true_iff]
  constructor
  · rintro ⟨y, hy, e⟩
    have e : y = z := by simpa [eqV] using e
    exact e ▸ hy
  · intro h
    exact ⟨_, h, by simp [eqV]⟩
theorem w_dget {td ty : TE} {σ : L2.St} {H : Hp} {Q : VK} (q : td σ H fun x H1 => ty σ H1 fun y H2 => ∃ a v, x = .ref a ∧ DGet H2 a y (some v) ∧ Q v H2) : tDGet td ty σ H Q := q
theorem i_dget {F : V → Prop} {H : Hp} {ld b l : Addr} {W : List (Int × Int)} {ls : List Addr} {j : Nat} {u : Int × Int} (nd : W.Nodup) (h : H ld = some (.dT (dtOf W ls))) (hb : H b = some (.tup [.int u.1, .int u.2])) (hu : W[j]? = some u) (hl : ls[j]? = some l) (q : F (.ref l)) : ∃ (a : Addr) (v : V), V.ref ld = .ref a ∧ DGet H a (.ref b) (some v) ∧ F v :=
  ⟨ld, .ref l, rfl, by rw [← valT nd hu hl]; exact DGet.t h hb, q⟩
theorem eqv_none (us : List (Int × Int)) : PyData.eqv (.list (us.map dP)) (.list []) = decide (us.length = 0) := by
  cases us with
  | nil => rfl
  | cons u us => rfl

end
end Mine
/-! ## K11b -/


namespace Mine
section
variable {P : Program} {w : World} {K : PySem.W.Frag} {mg : Str → Option Value} {base : Heap} {a : Ads}

/-! ### puts and letters led by drawn steps -/
theorem nodup_snoc {α : Type} {l : List α} {a : α} (h : l.Nodup) (n : a ∉ l) : (l ++ [a]).Nodup := List.nodup_append.mpr ⟨h, by simp, fun x hx y hy e => by
  have ey : y = a := by simpa using hy
  subst ey; subst e
  exact n hx⟩
def sp__law_ran (K : PySem.W.Frag) : Sp := fun vs H Q _ => ∃ (hd c : Addr) (n : Int) (wa : Addr) (bs : List Addr) (W : List (Int × Int)) (vp : Addr) (ws : List Int) (most : Int), vs = [.ref hd, .int n, .ref wa, .ref vp, .int most] ∧ Hand H hd c ∧ SqT K H wa (bs.map V.ref) ∧ TupAll H bs W ∧ IsWeb n W ∧ SqT K H vp (ws.map V.int) ∧ ws.length ≤ 30 ∧ (∀ w ∈ ws, 0 ≤ w ∧ w < n) ∧ 0 ≤ most ∧ most ≤ 40 ∧
  ∀ (p dt st : Addr) (ds : List (List Int)) H', G (some (hd, c)) H H' → Hand H' hd c → H' p = some (.tup [.ref dt, .ref st]) → Dia K H' dt ds → ds.length = n.toNat → IsRec ws ds → Q (.ref p) H'
theorem ok__law_ran (T : Txt K mg a) : FnOk P w K mg base CX0 2 a.f__law_ran a.d__law_ran P__law_ran (sp__law_ran K) := by
  refine T.F__law_ran.ok sc__law_ran (fun vs H Q E h => by obtain ⟨hd, c, n, wa, bs, W, vp, ws, most, rfl, _⟩ := h; rfl) (fun cdv A outer s H vs Q E hr h => ?_)
  obtain ⟨hd, c, m, wa, bs, W, vp, ws, most, rfl, hh, hwa, tup, web, hv, p30, hws, mo0, mo40, k⟩ := h
  have G__law_draw : FnOk P w K mg base CX0 1 a.f__law_draw a.d__law_draw P__law_draw sp__law_draw := ok__law_draw T
  have m1 := web.lo
  have m7 := web.hi
  have l49 := isweb_len49 web
  obtain ⟨n, rfl⟩ : ∃ n : Nat, m = (n : Int) := ⟨m.toNat, by omega⟩
  rw [Int.toNat_natCast] at k
  have hhp : ∀ p, some (hd, c) = some p → Hand H p.1 p.2 := fun p e => by cases e; exact hh
  have lb := tup.1
  refine ⟨_, (pss_cons (ps_setLc (i := 5) (own := [("_law_machine", 16)]) (g := (gName 16)) (tt := tYes)  rfl sc__law_ran.nd rfl rfl (sw_true rfl rfl rfl (by decide +kernel)) (pi_range1 rfl T.n_range (pa_cons (pv 1) pa_nil)) (blkOk_by (N := N__law_ran) (sc := defScope s__law_ran) (by decide +kernel)) (fun _ _ _ _ _ => (pg_name (i := 16) sc__law_ran.nd rfl (by first | exact Or.inl rfl | exact Or.inr rfl))) (fun _ _ _ _ _ => pts_nil) (fun _ _ _ _ _ => (pe_lstN pa_nil)))
  (pss_cons (ps_set (i := 7) sc__law_ran.nd rfl (Or.inr rfl) (pe_callTy (call_dictPT rfl hr.units) (by rfl) T.n_dict (by decide +kernel) (pa_cons (pe_lc (own := [("_law_wire", 6)]) (g := (gName 6)) (tt := tYes) rfl sc__law_ran.nd (pi_tup (pv 2)) (blkOk_by (N := N__law_ran) (sc := defScope s__law_ran) (by decide +kernel)) (fun _ _ _ _ _ => (pg_name (i := 6) sc__law_ran.nd rfl (by first | exact Or.inl rfl | exact Or.inr rfl))) (fun _ _ _ _ _ => pts_nil) (fun _ _ _ _ _ => (pe_tupN (pa_cons (pv 6) (pa_cons (pe_lstN pa_nil) pa_nil))))) pa_nil)))
  (pss_cons (ps_set (i := 8) sc__law_ran.nd rfl (Or.inl rfl) (pe_listRgN rfl (by rfl) T.n_list (prg_1 (by rfl) T.n_range (pe_callB call_len_seq (by rfl) T.n_len (by decide +kernel) (pa_cons (pv 3) pa_nil))) (mo_rg1 mo_len)))
  (pss_cons (ps_set (i := 9) sc__law_ran.nd rfl (Or.inl rfl) (pe_lstN pa_nil))
  (pss_cons (ps_set (i := 10) sc__law_ran.nd rfl (Or.inl rfl) pe_int)
  (pss_cons (ps_for PassesOwn.never rfl (pi_range1 rfl T.n_range (pa_cons (pe_op op_add (pe_callB call_len_seq (by rfl) T.n_len (by decide +kernel) (pa_cons (pv 3) pa_nil)) (pv 4)) pa_nil)) (pg_name (i := 11) sc__law_ran.nd rfl (Or.inl rfl))
    (pss_cons (ps_setLc (i := 12) (own := [("_law_wire", 6)]) (g := (gName 6))  rfl sc__law_ran.nd rfl rfl (sw_true rfl rfl rfl (by decide +kernel)) (pi_tup (pv 2)) (blkOk_by (N := N__law_ran) (sc := defScope s__law_ran) (by decide +kernel)) (fun _ _ _ _ _ => (pg_name (i := 6) sc__law_ran.nd rfl (by first | exact Or.inl rfl | exact Or.inr rfl))) (fun _ _ _ _ _ => (pts_one (pt_cmpR op_gt (pe_callB (k_call_len_seq K) (by rfl) T.n_len (by decide +kernel) (pa_cons (pe_dget (hu_of hr) (pv 7) (pv 6) (by first | exact fun _ _ => rfl | rfl | decide)) pa_nil)) pe_int (nomark _)))) (fun _ _ _ _ _ => (pv 6)))
  (pss_cons (ps_if (L2.PW.pt (pw_and (pt_cmpR op_gt (pe_callB call_len_seq (by rfl) T.n_len (by decide +kernel) (pa_cons (pv 8) pa_nil)) pe_int (nomark _)) (pw_and1 (L2.PW.pt (pw_or (pt_cmpR (op_eqD hr.units) (pv 12) (pe_lstN pa_nil) (nomark _)) (pw_or (pt_cmpR op_eq (pv 10) (pv 4) (nomark _)) (pw_or1 (pt_cmpR op_eq (pe_call (G__law_draw) (hr.mono (by omega)) rfl T.m__law_draw T.F__law_draw.kp T.b__law_draw .nil pass0 (pa_cons (pv 0) (pa_cons pe_int pa_nil))) pe_int (nomark _)))))))))
    (pss_cons (ps_set (i := 13) sc__law_ran.nd rfl (Or.inl rfl) (pe_bm PySem.F.plainAttrs_list PySem.F.slot_list_pop PySem.F.type_list_pop mt_popAt (pv 8) (pa_cons (pe_call (G__law_draw) (hr.mono (by omega)) rfl T.m__law_draw T.F__law_draw.kp T.b__law_draw .nil pass0 (pa_cons (pv 0) (pa_cons (pe_callB call_len_seq (by rfl) T.n_len (by decide +kernel) (pa_cons (pv 8) pa_nil)) pa_nil))) pa_nil)))
  (pss_cons (ps_set (i := 14) sc__law_ran.nd rfl (Or.inl rfl) (pe_ix ix_tup (pv 3) (pv 13) (fun _ _ => rfl)))
  (pss_one (ps_expr (pe_bm PySem.F.plainAttrs_list PySem.F.slot_list_append PySem.F.type_list_append mt_append (pv 9) (pa_cons (pe_tupN (pa_cons pe_str (pa_cons (pv 13) pa_nil))) pa_nil))))))
    (pss_one (ps_if (L2.PW.pt (pw_and (pt_cmpR (op_neD hr.units) (pv 12) (pe_lstN pa_nil) (nomark _)) (pw_and1 (pt_cmpR op_lt (pv 10) (pv 4) (nomark _)))))
    (pss_cons (ps_asg (pe_ix ix_list (pv 12) (pe_call (G__law_draw) (hr.mono (by omega)) rfl T.m__law_draw T.F__law_draw.kp T.b__law_draw .nil pass0 (pa_cons (pv 0) (pa_cons (pe_callB call_len_seq (by rfl) T.n_len (by decide +kernel) (pa_cons (pv 12) pa_nil)) pa_nil))) (fun _ _ => rfl)) (pg_tup rfl (pgs_cons (pg_name (i := 15) sc__law_ran.nd rfl (Or.inl rfl)) (pgs_cons (pg_name (i := 14) sc__law_ran.nd rfl (Or.inl rfl)) pgs_nil))))
  (pss_cons (ps_set (i := 13) sc__law_ran.nd rfl (Or.inl rfl) (pe_bm PySem.F.plainAttrs_list PySem.F.slot_list_pop PySem.F.type_list_pop mt_popAt (pe_dget (hu_of hr) (pv 7) (pe_tupN (pa_cons (pv 15) (pa_cons (pv 14) pa_nil))) (fun _ _ => rfl)) (pa_cons pe_int pa_nil)))
  (pss_cons (ps_expr (pe_bm PySem.F.plainAttrs_list PySem.F.slot_list_append PySem.F.type_list_append mt_append (pv 9) (pa_cons (pe_tupN (pa_cons pe_str (pa_cons (pv 15) (pa_cons (pv 14) pa_nil)))) pa_nil)))
  (pss_one (ps_set (i := 10) sc__law_ran.nd rfl (Or.inl rfl) (pe_op op_add (pv 10) pe_int))))))
    (pss_one ps_break))))
  (pss_one (ps_if (pt_cmpR op_notIn_seq (pv 13) (pe_ix ix_list (pv 5) (pv 14) (fun _ _ => rfl)) (by rfl))
    (pss_cons (ps_expr (pe_bm PySem.F.plainAttrs_list PySem.F.slot_list_append PySem.F.type_list_append mt_append (pe_ix ix_list (pv 5) (pv 14) (fun _ _ => rfl)) (pa_cons (pv 13) pa_nil)))
  (pss_one (ps_for PassesOwn.never rfl (pi_tup (pv 2)) (pg_name (i := 6) sc__law_ran.nd rfl (Or.inl rfl))
    (pss_one (ps_if (pt_cmpR op_eq (pe_ix ix_tup (pv 6) pe_int (fun _ _ => rfl)) (pv 14) (nomark _))
    (pss_one (ps_expr (pe_bm PySem.F.plainAttrs_list PySem.F.slot_list_append PySem.F.type_list_append mt_append (pe_dget (hu_of hr) (pv 7) (pv 6) (by first | exact fun _ _ => rfl | rfl | decide)) (pa_cons (pv 13) pa_nil))))
    pss_nil)))))
    pss_nil)))))
  (pss_one (ps_ret (pe_tupN (pa_cons (pe_callTy call_tupleN (by rfl) T.n_tuple (by decide +kernel) (pa_cons (pe_lc (own := [("_law_diary", 17)]) (g := (gName 17)) (tt := tYes) rfl sc__law_ran.nd (pi_list (pv 5)) (blkOk_by (N := N__law_ran) (sc := defScope s__law_ran) (by decide +kernel)) (fun _ _ _ _ _ => (pg_name (i := 17) sc__law_ran.nd rfl (by first | exact Or.inl rfl | exact Or.inr rfl))) (fun _ _ _ _ _ => pts_nil) (fun _ _ _ _ _ => (pe_callTy (k_tupleF K) (by rfl) T.n_tuple (by decide +kernel) (pa_cons (pv 17) pa_nil)))) pa_nil)) (pa_cons (pv 9) pa_nil))))))))))), ?_⟩
  walk_at "ws"
  refine i_rng1 (by omega) (by omega) ?_
  rw [Int.toNat_natCast]
  intro dl hdl
  refine lc_it walk_range (fun i H' => ∃ rs : List Addr, G none H H' ∧ H' dl = some (.lst (rs.map V.ref)) ∧ rs.length = i ∧ rs.Nodup ∧ dl ∉ rs ∧ ∀ l ∈ rs, H l = none ∧ H' l = some (.lst [])) ⟨[], (G.refl).mut hdl (fun _ e => nomatch e), upd_same, rfl, List.nodup_nil, (fun h => nomatch h), (fun _ h => nomatch h)⟩ (fun _ _ _ _ => trivial) ?_ ?_
  · rintro i _ _ H1 hi ⟨rs, g1, h1, lr, nd, ndl, hrs⟩ ⟨rfl, rfl⟩
    walk_at "ws"
    refine ⟨rfl, ?_⟩
    walk_at "ws"
    refine ⟨sz (by simp), fun l H2 hl g2 h2 => ?_⟩
    have nl : l ≠ dl := (ne_of_none h1 hl).symm
    refine ⟨rs.map V.ref, (g2 none).all _ _ h1, Nat.lt_of_le_of_lt (by rw [List.length_map]; omega : (rs.map V.ref).length ≤ 100000) (by decide), rs ++ [l], (g1.trans (g2 none)).mut hdl (fun _ e => nomatch e), by rw [upd_same, List.map_append]; rfl, by rw [List.length_append, lr]; rfl, ?_, ?_, ?_⟩
    · exact nodup_snoc nd fun ha => by
        have := (hrs _ ha).2
        rw [hl] at this; cases this
    · intro h
      rcases List.mem_append.mp h with z | z
      · exact ndl z
      · exact nl (by simpa using z : dl = l).symm
    · intro x hx
      rcases List.mem_append.mp hx with z | z
      · have q := hrs x z
        exact ⟨q.1, by rw [upd_ne (ne_mem ndl z)]; exact (g2 none).all _ _ q.2⟩
      · have e : x = l := by simpa using z
        subst e
        exact ⟨back_none g1 hl, by rw [upd_ne nl]; exact h2⟩
  rintro H1 ⟨rs, g1, h1, lr, nd, ndl, hrs⟩
  have hwa1 := sqT_t g1.tups hwa
  have tup1 := tup.g g1 (fun _ e => nomatch e)
  have hv1 := sqT_t g1.tups hv
  walk_at "ws"
  refine i_tup hwa1 ?_
  intro D hD
  refine lc_it (walk_tup (xs := bs.map V.ref)) (fun i H' => ∃ ts ls : List Addr, G none H1 H' ∧ H' D = some (.lst (ts.map V.ref)) ∧ ts.length = i ∧ ls.length = i ∧ ls.Nodup ∧ (∀ l ∈ ls, H1 l = none ∧ l ≠ D ∧ H' l = some (.lst [])) ∧ ∀ (j : Nat) (t b l : Addr), ts[j]? = some t → bs[j]? = some b → ls[j]? = some l → H' t = some (.tup [.ref b, .ref l])) ⟨[], [], (G.refl).mut hD (fun _ e => nomatch e), upd_same, rfl, rfl, List.nodup_nil, (fun _ h => nomatch h), (fun j t b l e => by simp at e)⟩ (fun i H' _ ⟨ts, ls, q, _⟩ => sqT_t q.tups hwa1) ?_ ?_
  · rintro i v _ H2 hi ⟨ts, ls, g2, h2, lt_, ll, ndls, hls, hts⟩ ⟨rfl, hv'⟩
    rw [List.length_map] at hi
    rw [List.getElem?_map] at hv'
    obtain ⟨b, hb, rfl⟩ := Option.map_eq_some_iff.mp hv'
    walk_at "ws"
    refine ⟨rfl, ?_⟩
    walk_at "ws"
    refine ⟨sz (by simp), fun l H3 hl g3 h3 => ?_⟩
    walk_at "ws"
    refine ⟨sz (by simp), fun t H4 ht g4 h4 => ?_⟩
    have g24 : G none H2 H4 := (g3 none).trans (g4 none)
    have h4D := g24.all _ _ h2
    have h4l := (g4 none).all _ _ h3
    have nl : l ≠ D := (ne_of_none h2 hl).symm
    have tD : t ≠ D := (ne_of_none ((g3 none).all _ _ h2) ht).symm
    refine ⟨ts.map V.ref, h4D, Nat.lt_of_le_of_lt (by rw [List.length_map]; omega : (ts.map V.ref).length ≤ 100000) (by decide), ts ++ [t], ls ++ [l], (g2.trans g24).mut hD (fun _ e => nomatch e), by rw [upd_same, List.map_append]; rfl, by rw [List.length_append, lt_]; rfl, by rw [List.length_append, ll]; rfl, ?_, ?_, ?_⟩
    · exact nodup_snoc ndls fun ha => by
        have := (hls _ ha).2.2
        rw [hl] at this; cases this
    · intro x hx
      rcases List.mem_append.mp hx with z | z
      · have q := hls x z
        exact ⟨q.1, q.2.1, by rw [upd_ne q.2.1]; exact g24.all _ _ q.2.2⟩
      · have e : x = l := by simpa using z
        subst e
        exact ⟨back_none g2 hl, nl, by rw [upd_ne nl]; exact h4l⟩
    · intro j t' b' l' e1 e2 e3
      by_cases cj : j < i
      · rw [List.getElem?_append_left (by omega)] at e1 e3
        have q := hts j t' b' l' e1 e2 e3
        rw [upd_ne (ne_of q h2 (by intro z; cases z))]
        exact g24.all _ _ q
      · have ej : j = i := by
          have := (List.getElem?_eq_some_iff.mp e1).1
          rw [List.length_append, lt_, List.length_singleton] at this
          omega
        subst ej
        rw [List.getElem?_append_right (by omega), lt_, Nat.sub_self] at e1
        rw [List.getElem?_append_right (by omega), ll, Nat.sub_self] at e3
        rw [hb] at e2
        cases e1; cases e2; cases e3
        rw [upd_ne tD]
        exact h4
  rintro H2 ⟨ts, ls, g2, h2, lt_, ll, ndls, hls, hts⟩
  rw [List.length_map] at lt_ ll
  have tup2 := tup1.g g2 (fun _ e => nomatch e)
  walk_at "ws"
  refine ⟨D, mkL W bs ts ls, rfl, by rw [mkL_at lb (by omega) (by omega)]; exact h2, fun q hq => ?_, ?_, fun ld H3 hld g3 h3 => ?_⟩
  · obtain ⟨j, u, b, t, l, e1, e2, e3, e4, rfl⟩ := mkL_mem hq
    exact ⟨hts j t b l e3 e2 e4, tup2.2 j b u e2 e1⟩
  · rw [mkL_key lb (by omega) (by omega)]
    exact List.pairwise_map.mpr ((web_nodup web).imp fun h e => h (keyOfP_inj e))
  rw [mkL_dt lb (by omega) (by omega)] at h3
  walk_at "ws"
  refine w_lstRg (w_rg1 ?_)
  walk_at "ws"
  have hv3 := sqT_t (g2.trans (g3 none)).tups hv1
  refine ⟨vp, _, rfl, .inr hv3, _, rfl, ?_⟩
  rw [List.length_map]
  refine ⟨RgOk.of_le (by decide) (by omega) (by decide) (by omega), fun lf H4 hlf g4 h4 => ?_⟩
  rw [rg_upto] at h4
  walk_at "ws"
  refine ⟨sz (by simp), fun st H5 hst g5 h5 => ?_⟩
  have g34 := g4 none
  have g45 := g5 none
  have g13 : G none H1 H3 := g2.trans (g3 none)
  have g35 := g34.trans g45
  have g25 := (g3 none).trans g35
  have g15 := g13.trans g35
  have g05 := g1.trans g15
  have h2dl := g2.all _ _ h1
  have h2rs : ∀ l ∈ rs, H2 l = some (.lst []) := fun l hl => g2.all _ _ (hrs l hl).2
  have h3dl := (g3 none).all _ _ h2dl
  have h3rs : ∀ l ∈ rs, H3 l = some (.lst []) := fun l hl => (g3 none).all _ _ (h2rs l hl)
  have h3ls : ∀ l ∈ ls, H3 l = some (.lst []) := fun l hl => (g3 none).all _ _ (hls l hl).2.2
  have N : RanN H ⟨dl, lf, st, ld, rs, ls⟩ := ⟨hdl, back_none (g1.trans g13) hlf, back_none ((g1.trans g13).trans g34) hst, back_none (g1.trans g2) hld, fun l hl => (hrs l hl).1, fun l hl => back_none g1 (hls l hl).1,
    ne_of_none h3dl hlf, ne_of_none (g34.all _ _ h3dl) hst, ne_of_none h2dl hld, ndl, (fun hl => ne_of_none h1 (hls _ hl).1 rfl),
    ne_of_none h4 hst, (ne_of_none h3 hlf).symm, not_in hlf h3rs, not_in hlf h3ls,
    (ne_of_none (g34.all _ _ h3) hst).symm, not_in hst (fun l hl => g34.all _ _ (h3rs l hl)), not_in hst (fun l hl => g34.all _ _ (h3ls l hl)),
    not_in hld h2rs, not_in hld (fun l hl => (hls l hl).2.2), nd, ndls, (fun l hl hl2 => ne_of_none (hrs l hl).2 (hls l hl2).1 rfl)⟩
  have nil_at : ∀ (as : List Addr), (∀ l ∈ as, H5 l = some (.lst [])) → Lists H5 as (as.map fun _ => []) := fun as h => ⟨by rw [List.length_map], fun i a l e1 e2 => by
    rw [List.getElem?_map, e1] at e2
    cases e2
    exact h a (List.mem_of_getElem? e1)⟩
  have S5 : RanS W ⟨dl, lf, st, ld, rs, ls⟩ H5 (rs.map fun _ => []) (upto ws.length) (ls.map fun _ => []) [] := ⟨g35.all _ _ h3dl, g45.all _ _ h4, h5, g35.all _ _ h3, nil_at rs fun l hl => g35.all _ _ (h3rs l hl), nil_at ls fun l hl => g35.all _ _ (h3ls l hl)⟩
  have T5 : RanT n ws most 0 0 (rs.map fun _ => []) (upto ws.length) (ls.map fun _ => []) [] 0 := by
    have lu : (upto ws.length).length = ws.length := by unfold upto; simp
    refine ⟨by rw [List.length_map]; exact lr, fun d hd' => ?_, fun d hd' p hp => ?_, fun p hp => ?_, fun l hl p hp => ?_, by rw [lu]; simp, by rw [lu]; exact Nat.le_refl _, Int.le_refl _, mo0, Nat.le_refl _, fun l hl => ?_⟩
    · obtain ⟨_, _, rfl⟩ := List.mem_map.mp hd'; exact List.nodup_nil
    · obtain ⟨_, _, rfl⟩ := List.mem_map.mp hd'; exact nomatch hp
    · unfold upto at hp
      obtain ⟨i, hi, rfl⟩ := List.mem_map.mp hp
      have := List.mem_range.mp hi
      omega
    · obtain ⟨_, _, rfl⟩ := List.mem_map.mp hl; exact nomatch hp
    · obtain ⟨_, _, rfl⟩ := List.mem_map.mp hl; exact Nat.le_refl _
  have O5 : Own ws (rs.map fun _ => []) (upto ws.length) none := fun p w d e1 e2 => .inr (.inl (by
    have := (List.getElem?_eq_some_iff.mp e1).1
    unfold upto
    exact List.mem_map.mpr ⟨p, List.mem_range.mpr this, rfl⟩))
  have g5' : G (some (hd, c)) H H5 := g05.up
  have llW : ls.length = W.length := by omega
  clear h3rs h3ls h2rs h2dl h3dl h5 h4 h3 hts hls h2 hrs h1 g25 g35 g45 g34 g5 g4 g3 hst hlf hld hwa1 tup1 hv1 tup2 hv3 g15 g13 g2 g1 ndls nd nil_at g05 ndl lt_ hD hdl
  walk_at "wn"
  dsimp only
  refine w_seq ?_
  walk_at "wn"
  dsimp only
  refine w_seqM (fun σ H' => ∃ (u6 : Option V) (more : Int) (u11 u12 u13 u14 u15 u16 u17 : Option V) (ds lt : List (List Int)) (sv : List V), σ = [some (.ref hd), some (.int (n : Int)), some (.ref wa), some (.ref vp), some (.int most), some (.ref dl), u6, some (.ref ld), some (.ref lf), some (.ref st), some (.int more), u11, u12, u13, u14, u15, u16, u17] ∧ G (some (hd, c)) H H' ∧ RanS W ⟨dl, lf, st, ld, rs, ls⟩ H' ds [] lt sv ∧ (∃ i b, RanT n ws most i b ds [] lt sv more) ∧ Own ws ds [] none) (fun N1 kN1 => ?_) ?_
  · walk_at "ws"
    have hv5 := sqT_t g5'.tups hv
    refine ⟨vp, _, rfl, .inr hv5, ?_⟩
    walk_at "ws"
    rw [List.length_map]
    refine i_rng1 (by omega) (by omega) ?_
    refine for_it walk_range (fun i σ H' => ∃ (u6 : Option V) (more : Int) (u11 u12 u13 u14 u15 u16 u17 : Option V) (ds : List (List Int)) (left : List Int) (lt : List (List Int)) (sv : List V), σ = [some (.ref hd), some (.int (n : Int)), some (.ref wa), some (.ref vp), some (.int most), some (.ref dl), u6, some (.ref ld), some (.ref lf), some (.ref st), some (.int more), u11, u12, u13, u14, u15, u16, u17] ∧ G (some (hd, c)) H H' ∧ RanS W ⟨dl, lf, st, ld, rs, ls⟩ H' ds left lt sv ∧ RanT n ws most i i ds left lt sv more ∧ Own ws ds left none) ⟨_, 0, _, _, _, _, _, _, _, _, _, _, _, rfl, g5', S5, T5, O5⟩ (fun _ _ _ _ _ => trivial) ?_ ?_
    · clear S5 T5 O5 g5' hv5
      rintro i _ σ _ H6 hi ⟨u6, more, u11, u12, u13, u14, u15, u16, u17, ds, left, lt, sv, rfl, g6, S6, T6, O6⟩ ⟨rfl, rfl⟩
      have hh6 : Hand H6 hd c := g6.hand (hd, c) rfl hh
      have hwa6 := sqT_t g6.tups hwa
      have hv6 := sqT_t g6.tups hv
      have tup6 := tup.g g6 hhp
      have lls : ls.length = lt.length := S6.ls.1
      walk_at "ws"
      refine i_tup hwa6 ?_
      intro R hR
      refine lc_it (walk_tup (xs := bs.map V.ref)) (fun i H' => ∃ xs : List V, G none H6 H' ∧ H' R = some (.lst xs) ∧ xs.length ≤ i ∧ ∀ v ∈ xs, ∃ (j : Nat) (b : Addr) (l : List Int), v = .ref b ∧ bs[j]? = some b ∧ lt[j]? = some l ∧ l ≠ []) ⟨[], (G.refl).mut hR (fun _ e => nomatch e), upd_same, Nat.le_refl _, (fun _ h => nomatch h)⟩ (fun i H' _ ⟨_, q, _⟩ => sqT_t q.tups hwa6) ?_ ?_
      · rintro j v _ H7 hj ⟨xs, g7, h7, lx, hxs⟩ ⟨rfl, hv'⟩
        rw [List.length_map] at hj
        rw [List.getElem?_map] at hv'
        obtain ⟨b, hb, rfl⟩ := Option.map_eq_some_iff.mp hv'
        obtain ⟨l, hl⟩ : ∃ l, ls[j]? = some l := ⟨_, List.getElem?_eq_getElem (by omega)⟩
        obtain ⟨q, hq⟩ : ∃ q, lt[j]? = some q := ⟨_, List.getElem?_eq_getElem (by omega)⟩
        obtain ⟨u, hu⟩ : ∃ u, W[j]? = some u := ⟨_, List.getElem?_eq_getElem (by omega)⟩
        walk_at "ws"
        refine ⟨rfl, ?_⟩
        walk_at "ws"
        refine w_dget ?_
        walk_at "ws"
        refine i_dget (web_nodup web) (g7.all _ _ S6.ld) (g7.all _ _ (tup6.2 j b u hb hu)) hu hl ?_
        refine ⟨l, _, rfl, .inl (SqL.of (g7.all _ _ (S6.ls.2 j l q hl hq))), ?_⟩
        walk_at "ws"
        rw [List.length_map]
        refine w_ite (fun e => ?_) (fun e => ?_)
        · walk_at "ws"
          have e' := of_decide_eq_true e
          refine ⟨xs, h7, Nat.lt_of_le_of_lt (by omega : xs.length ≤ 100000) (by decide), xs ++ [.ref b], g7.mut hR (fun _ e => nomatch e), upd_same, by rw [List.length_append, List.length_singleton]; omega, fun v hv => ?_⟩
          rcases List.mem_append.mp hv with z | z
          · exact hxs v z
          · exact ⟨j, b, q, by simpa using z, hb, hq, fun z => by rw [z] at e'; simp at e'⟩
        · exact ⟨xs, g7, h7, by omega, hxs⟩
      rintro H7 ⟨xs, g7, h7, lx, hxs⟩
      rw [List.length_map] at lx
      have S7 := S6.g N hh g7.up
      have g67 : G (some (hd, c)) H6 H7 := g7.up
      have offR : Off (some (hd, c)) R := off_new hh6 hR
      have hh7 : Hand H7 hd c := g67.hand (hd, c) rfl hh6
      have tup7 := tup6.g g67 (fun p e => by cases e; exact hh6)
      have hv7 := sqT_t g67.tups hv6
      have TT := T6
      have ci := T6.cnt
      have cl := T6.ll
      have cm := T6.mm
      have c0 := T6.m0
      walk_at "wn"
      dsimp only
      refine w_seqM (fun σ H' => ∃ (u6 : Option V) (more put x : Int) (u11 u12 u15 u16 u17 : Option V) (ds : List (List Int)) (left : List Int) (lt : List (List Int)) (sv : List V), σ = [some (.ref hd), some (.int (n : Int)), some (.ref wa), some (.ref vp), some (.int most), some (.ref dl), u6, some (.ref ld), some (.ref lf), some (.ref st), some (.int more), u11, u12, some (.int put), some (.int x), u15, u16, u17] ∧ G (some (hd, c)) H H' ∧ RanS W ⟨dl, lf, st, ld, rs, ls⟩ H' ds left lt sv ∧ RanT n ws most (i + 1) i ds left lt sv more ∧ Own ws ds left (some (put, x)) ∧ (0 ≤ put ∧ put < (ws.length : Int)) ∧ (0 ≤ x ∧ x < (n : Int))) (fun N2 kN2 => ?_) ?_
      · refine w_ifM (fun b H' => G (some (hd, c)) H7 H' ∧ (b = true → 0 < left.length) ∧ (b = false → left ≠ [] → xs ≠ [] ∧ more < most)) (fun N3 kN3 => ?_) ?_
        · walk_at "ws"
          refine ⟨lf, _, rfl, .inl (SqL.of S7.lf), ?_⟩
          walk_at "ws"
          rw [List.length_map]
          refine w_ite (fun e => ?_) (fun e => ?_)
          · have e0 : 0 < left.length := by have := of_decide_eq_true e; omega
            walk_at "ws"
            refine ⟨sz (by simp), fun z H8 hz g8 h8 => ?_⟩
            obtain ⟨us, lu, hus⟩ := ready_dp (K := K) (tup7.g (g8 none) (fun _ e => nomatch e)) (xs := xs) fun v hv => by
              obtain ⟨j, b, _, e1, e2, _⟩ := hxs v hv
              exact ⟨j, b, e1, e2⟩
            refine ⟨.list (us.map dP), .list [], .lst (SqL.of ((g8 none).all _ _ h7)) hus, .lst (SqL.of h8) .nil, sh_pairsL us, sh_pairsL [], ?_⟩
            rw [eqv_none]
            walk_at "ws"
            refine w_ite (fun e => ?_) (fun e => ?_)
            · walk_at "ws"
              exact kN3 _ _ ⟨g8 _, fun _ => e0, fun z => nomatch z⟩
            · have nx : xs ≠ [] := fun z => by rw [z] at lu; rw [lu] at e; simp at e
              walk_at "ws"
              refine w_ite (fun e => ?_) (fun e => ?_)
              · walk_at "ws"
                exact kN3 _ _ ⟨g8 _, fun _ => e0, fun z => nomatch z⟩
              · have nm : ¬ more = most := of_decide_eq_false e
                walk_at "ws"
                refine ⟨hd, c, 3, rfl, (g8 (some (hd, c))).hand _ rfl hh7, by decide, by decide, fun r H9 r0 r1 g9 hh9 => ?_⟩
                walk_at "ws"
                exact kN3 _ _ ⟨(g8 _).trans g9, fun _ => e0, fun _ _ => ⟨nx, by omega⟩⟩
          · walk_at "ws"
            refine kN3 _ _ ⟨G.refl, (fun z => nomatch z), fun _ n0 => absurd (List.eq_nil_of_length_eq_zero ?_) n0⟩
            have := of_decide_eq_false e
            omega
        · rintro b H8 ⟨g78, kt, kf⟩
          have g08 := (g6.trans g67).trans g78
          have S8 := S7.g N hh g78
          have hh8 : Hand H8 hd c := g78.hand (hd, c) rfl hh7
          have h8R := g78.keep R _ offR h7
          refine w_ite (fun e => ?_) (fun e => ?_)
          · have ln := kt e
            walk_at "ws"
            refine i_BM S8.lf ?_
            walk_at "ws"
            refine ⟨lf, _, rfl, .inl (SqL.of S8.lf), ?_⟩
            walk_at "ws"
            rw [List.length_map]
            refine ⟨hd, c, (left.length : Int), rfl, hh8, by omega, by omega, fun r H9 r0 r1 g9 hh9 => ?_⟩
            have S9 := S8.g N hh g9
            have rl : r.toNat < left.length := by omega
            have pr := T6.lr _ (List.getElem_mem rl)
            have pl : left[r.toNat].toNat < ws.length := by omega
            obtain ⟨x, hx⟩ : ∃ x, ws[left[r.toNat].toNat]? = some x := ⟨_, List.getElem?_eq_getElem pl⟩
            have xr := hws x (List.mem_of_getElem? hx)
            walk_at "ws"
            refine ⟨lf, left.map V.int, r, r.toNat, .int left[r.toNat], rfl, rfl, S9.lf, by omega, by omega, pop_ix r0 rl, by rw [List.getElem?_map, List.getElem?_eq_getElem rl]; rfl, ?_⟩
            rw [erase_ints]
            have SA := S9.left' N (left.eraseIdx r.toNat)
            have gA := (g08.trans g9).mut (l := lf) (u := .lst ((left.eraseIdx r.toNat).map V.int)) N.lf hhp
            walk_at "ws"
            refine r_ixT (sqT_t gA.tups hv) (v := .int x) (at_of (j := left[r.toNat].toNat) (by omega) (by rw [List.getElem?_map, hx]; rfl)) ?_
            walk_at "ws"
            refine i_BM SA.st ?_
            walk_at "ws"
            refine ⟨sz (by simp), fun t HB ht gB hB => ?_⟩
            have SB := SA.g N hh (gB _)
            have sl := T6.sl
            walk_at "ws"
            refine r_app SB.st (by omega) ?_
            walk_at "ws"
            refine kN2 _ _ ?_
            refine ⟨_, more, _, x, _, _, _, _, _, ds, left.eraseIdx r.toNat, lt, _, rfl, (gA.trans (gB _)).mut N.st hhp, SB.step' N _, ?_, O6.put rl hx pr.1, pr, xr⟩
            have le : (left.eraseIdx r.toNat).length = left.length - 1 := List.length_eraseIdx_of_lt rl
            exact ⟨T6.ld, T6.nd, T6.rng, fun p hp => T6.lr p (List.mem_of_mem_eraseIdx hp), T6.tr, by rw [le]; omega, by rw [le]; omega, T6.m0, T6.mm, by rw [List.length_append, List.length_singleton]; omega, T6.tl⟩
          · have hf := kf e
            refine w_ifM (fun b H' => G (some (hd, c)) H8 H' ∧ (b = true → xs ≠ [] ∧ more < most) ∧ (b = false → ¬ (xs ≠ [] ∧ more < most))) (fun N4 kN4 => ?_) ?_
            · walk_at "ws"
              refine ⟨sz (by simp), fun z H9 hz g9 h9 => ?_⟩
              obtain ⟨us, lu, hus⟩ := ready_dp (K := K) ((tup7.g g78 (fun p e => by cases e; exact hh7)).g (g9 none) (fun _ e => nomatch e)) (xs := xs) fun v hv => by
                obtain ⟨j, b, _, e1, e2, _⟩ := hxs v hv
                exact ⟨j, b, e1, e2⟩
              refine ⟨.list (us.map dP), .list [], .lst (SqL.of ((g9 none).all _ _ h8R)) hus, .lst (SqL.of h9) .nil, sh_pairsL us, sh_pairsL [], ?_⟩
              rw [eqv_none]
              walk_at "ws"
              refine w_ite (fun e => ?_) (fun e => ?_)
              · have nx : xs ≠ [] := fun z => by rw [z] at lu; rw [lu] at e; simp at e
                walk_at "ws"
                by_cases cc : more < most
                · rw [decide_eq_true cc]
                  exact kN4 _ _ ⟨g9 _, fun _ => ⟨nx, cc⟩, fun z => nomatch z⟩
                · rw [decide_eq_false cc]
                  exact kN4 _ _ ⟨g9 _, (fun z => nomatch z), fun _ z => cc z.2⟩
              · have nx : xs = [] := by
                  have : us.length = 0 := by simpa using e
                  exact List.eq_nil_of_length_eq_zero (by omega)
                walk_at "ws"
                exact kN4 _ _ ⟨g9 _, (fun z => nomatch z), fun _ z => z.1 nx⟩
            · rintro b2 H9 ⟨g89, kt2, kf2⟩
              have g09 := g08.trans g89
              have S9 := S8.g N hh g89
              have hh9 : Hand H9 hd c := g89.hand (hd, c) rfl hh8
              have h9R := g89.keep R _ offR h8R
              refine w_ite (fun e => ?_) (fun e => ?_)
              · obtain ⟨nx, mlt⟩ := kt2 e
                have lx0 : 0 < xs.length := List.length_pos_iff.mpr nx
                walk_at "ws"
                refine ⟨R, _, rfl, .inl (SqL.of h9R), ?_⟩
                walk_at "ws"
                refine ⟨hd, c, (xs.length : Int), rfl, hh9, by omega, by omega, fun r HA r0 r1 gA hhA => ?_⟩
                have SA := S9.g N hh gA
                have hAR := gA.keep R _ offR h9R
                have rl : r.toNat < xs.length := by omega
                obtain ⟨j, b, q, ev, hb, hq, nq⟩ := hxs _ (List.getElem_mem rl)
                have gHA := g09.trans gA
                have tupA := tup.g gHA hhp
                obtain ⟨u, hu⟩ : ∃ u, W[j]? = some u := ⟨_, List.getElem?_eq_getElem (by have := (List.getElem?_eq_some_iff.mp hb).1; omega)⟩
                obtain ⟨l, hl⟩ : ∃ l, ls[j]? = some l := ⟨_, List.getElem?_eq_getElem (by have := (List.getElem?_eq_some_iff.mp hb).1; omega)⟩
                have ht := tupA.2 j b u hb hu
                have um := web.mem u (List.mem_of_getElem? hu)
                refine r_ixL (SqL.of hAR) (v := .ref b) (at_of (j := r.toNat) (by omega) (by rw [List.getElem?_eq_getElem rl, ev])) ?_
                refine ⟨b, _, rfl, SqT.of ht, rfl, ?_⟩
                refine ⟨_, _, rfl, ?_⟩
                walk_at "ws"
                refine ⟨_, _, rfl, ?_⟩
                walk_at "ws"
                refine ⟨rfl, ?_⟩
                walk_at "ws"
                refine w_dget ?_
                walk_at "ws"
                refine ⟨sz (by simp), fun t HB ht2 gB hB => ?_⟩
                have SB := SA.g N hh (gB _)
                refine i_dget (web_nodup web) SB.ld hB hu hl ?_
                obtain ⟨p0, q', rfl⟩ : ∃ p0 q', q = p0 :: q' := by
                  cases q with
                  | nil => exact absurd rfl nq
                  | cons p0 q' => exact ⟨p0, q', rfl⟩
                have hlB := SB.ls.2 j l _ hl hq
                refine i_BM hlB ?_
                walk_at "ws"
                refine ⟨l, (p0 :: q').map V.int, 0, 0, .int p0, rfl, rfl, hlB, by decide, by decide, pop_ix (r := 0) (by decide) (by simp), rfl, ?_⟩
                rw [erase_ints]
                have SC := SB.let' N hl ((p0 :: q').eraseIdx 0)
                have gC := ((gHA.trans (gB _)).mut (l := l) (u := .lst (((p0 :: q').eraseIdx 0).map V.int)) (N.ls l (List.mem_of_getElem? hl)) hhp)
                walk_at "ws"
                refine i_BM SC.st ?_
                walk_at "ws"
                refine ⟨sz (by simp), fun t2 HD ht3 gD hD => ?_⟩
                have SD := SC.g N hh (gD _)
                have sl := T6.sl
                walk_at "ws"
                refine r_app SD.st (by omega) ?_
                walk_at "ws"
                refine kN2 _ _ ?_
                have mq := List.mem_of_getElem? hq
                refine ⟨_, more + 1, p0, u.2, _, _, _, _, _, ds, left, lt.set j ((p0 :: q').eraseIdx 0), _, rfl, (gC.trans (gD _)).mut N.st hhp, SD.step' N _, ?_, O6.wk _, T6.tr _ mq p0 List.mem_cons_self, um.2.1⟩
                refine ⟨T6.ld, T6.nd, T6.rng, T6.lr, fun l hl p hp => ?_, by omega, T6.ll, by omega, by omega, by rw [List.length_append, List.length_singleton]; omega, fun l hl => ?_⟩
                · rcases mem_set_list hl with z | z
                  · exact T6.tr l z p hp
                  · rw [z] at hp
                    exact T6.tr _ mq p (List.mem_cons_of_mem _ hp)
                · rcases mem_set_list hl with z | z
                  · exact T6.tl l z
                  · rw [z]
                    have := T6.tl _ mq
                    simp at this ⊢
                    omega
              · have hn := kf2 e
                have l0 : left = [] := Classical.byContradiction fun z => hn (hf z)
                subst l0
                walk_at "ws"
                refine kN1 _ _ ?_
                exact ⟨_, _, _, _, _, _, _, _, _, ds, lt, sv, rfl, g09, S9, ⟨_, _, T6⟩, O6⟩
      · clear hv7 tup7 hh7 offR g67 S7 hxs lx h7 g7 hR lls tup6 hv6 hwa6 hh6 S6 T6 O6 TT ci cl cm c0 g6
        rintro σ H8 ⟨u6, more', put, x, u11, u12, u15, u16, u17, ds', left', lt', sv', rfl, g8, S8, T8, O8, pr, xr⟩
        obtain ⟨x, rfl⟩ : ∃ y : Nat, x = (y : Int) := ⟨x.toNat, by omega⟩
        have ld8 := T8.ld
        have lrs : rs.length = ds'.length := S8.rs.1
        obtain ⟨l, hl⟩ : ∃ l, rs[x]? = some l := ⟨_, List.getElem?_eq_getElem (by omega)⟩
        obtain ⟨d, hd'⟩ : ∃ d, ds'[x]? = some d := ⟨_, List.getElem?_eq_getElem (by omega)⟩
        have hdl := S8.rs.2 x l d hl hd'
        have md := List.mem_of_getElem? hd'
        have dlen := diary_len (T8.nd d md) (T8.rng d md)
        walk_at "ws"
        refine r_ixL (SqL.of S8.dl) (v := .ref l) (at_of (j := x) rfl (by rw [List.getElem?_map, hl]; rfl)) ?_
        refine ⟨l, _, rfl, .inl (SqL.of hdl), rfl, by rw [List.all_map, List.all_eq_true]; intro q _; rfl, ?_⟩
        rw [inV_ints]
        by_cases cp : put ∈ d
        · rw [decide_eq_true cp]
          walk_at "ws"
          refine w_iteN rfl ?_
          walk_at "ws"
          exact ⟨_, _, _, _, _, _, _, _, _, ds', left', lt', sv', rfl, g8, S8, ⟨T8.ld, T8.nd, T8.rng, T8.lr, T8.tr, T8.cnt, T8.ll, T8.m0, T8.mm, T8.sl, fun l hl => Nat.le_succ_of_le (T8.tl l hl)⟩, O8.had (by rw [Int.toNat_natCast]; exact hd') cp⟩
        · rw [decide_eq_false cp]
          walk_at "ws"
          refine w_iteE rfl ?_
          walk_at "ws"
          refine r_ixL (SqL.of S8.dl) (v := .ref l) (at_of (j := x) rfl (by rw [List.getElem?_map, hl]; rfl)) ?_
          refine i_BM hdl ?_
          walk_at "ws"
          refine r_app hdl (by rw [List.length_map]; omega) ?_
          have e1 : d.map V.int ++ [V.int put] = (d ++ [put]).map V.int := by rw [List.map_append]; rfl
          rw [e1]
          have S9 := S8.dia' N hl (d ++ [put])
          have g9 := g8.mut (l := l) (u := .lst ((d ++ [put]).map V.int)) (N.rs l (List.mem_of_getElem? hl)) hhp
          walk_at "ws"
          refine i_tup (sqT_t g9.tups hwa) ?_
          refine for_it (walk_tup (xs := bs.map V.ref)) (fun j σ H' => ∃ (u6 : Option V) (lt2 : List (List Int)), σ = [some (.ref hd), some (.int (n : Int)), some (.ref wa), some (.ref vp), some (.int most), some (.ref dl), u6, some (.ref ld), some (.ref lf), some (.ref st), some (.int more'), u11, u12, some (.int put), some (.int (x : Int)), u15, u16, u17] ∧ G (some (hd, c)) H H' ∧ RanS W ⟨dl, lf, st, ld, rs, ls⟩ H' (ds'.set x (d ++ [put])) left' lt2 sv' ∧ (∀ l ∈ lt2, ∀ p ∈ l, 0 ≤ p ∧ p < (ws.length : Int)) ∧ ∀ (z : Nat) (q : List Int), lt2[z]? = some q → q.length ≤ if z < j then i + 1 else i) ⟨_, lt', rfl, g9, S9, T8.tr, fun z q hq => T8.tl q (List.mem_of_getElem? hq)⟩ (fun _ _ _ _ ⟨_, _, _, q, _⟩ => sqT_t q.tups hwa) ?_ ?_
          · rintro j v σ _ HA hj ⟨u6, lt2, rfl, gA, SA, trA, tlA⟩ ⟨rfl, hv'⟩
            rw [List.length_map] at hj
            rw [List.getElem?_map] at hv'
            obtain ⟨b, hb, rfl⟩ := Option.map_eq_some_iff.mp hv'
            obtain ⟨la, hla⟩ : ∃ l, ls[j]? = some l := ⟨_, List.getElem?_eq_getElem (by omega)⟩
            have lls : ls.length = lt2.length := SA.ls.1
            obtain ⟨q, hq⟩ : ∃ q, lt2[j]? = some q := ⟨_, List.getElem?_eq_getElem (by omega)⟩
            obtain ⟨u, hu⟩ : ∃ u, W[j]? = some u := ⟨_, List.getElem?_eq_getElem (by omega)⟩
            have ht := (tup.g gA hhp).2 j b u hb hu
            have hlA := SA.ls.2 j la q hla hq
            have ql := tlA j q hq
            rw [if_neg (Nat.lt_irrefl j)] at ql
            have i70 : i ≤ 70 := by omega
            walk_at "ws"
            refine r_ixT (SqT.of ht) (v := .int u.1) (at_of (j := 0) rfl rfl) ?_
            walk_at "ws"
            refine w_ite (fun e => ?_) (fun e => ?_)
            · walk_at "ws"
              refine w_dget ?_
              walk_at "ws"
              refine i_dget (web_nodup web) SA.ld ht hu hla ?_
              refine i_BM hlA ?_
              walk_at "ws"
              refine r_app hlA (by rw [List.length_map]; omega) ?_
              have e2 : q.map V.int ++ [V.int put] = (q ++ [put]).map V.int := by rw [List.map_append]; rfl
              rw [e2]
              walk_at "ws"
              refine ⟨_, lt2.set j (q ++ [put]), rfl, gA.mut (N.ls la (List.mem_of_getElem? hla)) hhp, SA.let' N hla (q ++ [put]), fun l hl p hp => ?_, fun z q2 hz => ?_⟩
              · rcases mem_set_list hl with y | y
                · exact trA l y p hp
                · rw [y] at hp
                  rcases List.mem_append.mp hp with y2 | y2
                  · exact trA q (List.mem_of_getElem? hq) p y2
                  · have : p = put := by simpa using y2
                    rw [this]; exact pr
              · by_cases cz : j = z
                · subst cz
                  rw [List.getElem?_set_self (by omega)] at hz
                  cases hz
                  rw [if_pos (Nat.lt_succ_self _), List.length_append, List.length_singleton]
                  omega
                · rw [List.getElem?_set_ne cz] at hz
                  have := tlA z q2 hz
                  split at this <;> split <;> omega
            · walk_at "ws"
              refine ⟨_, lt2, rfl, gA, SA, trA, fun z q2 hz => ?_⟩
              have := tlA z q2 hz
              split at this <;> split <;> omega
          · rintro σ HA ⟨u6, lt2, rfl, gA, SA, trA, tlA⟩
            walk_at "ws"
            refine ⟨_, _, _, _, _, _, _, _, _, _, left', lt2, sv', rfl, gA, SA, ⟨by rw [List.length_set]; exact T8.ld, fun e he => ?_, fun e he p hp => ?_, T8.lr, trA, T8.cnt, T8.ll, T8.m0, T8.mm, T8.sl, fun q hq => ?_⟩, ?_⟩
            · rcases mem_set_list he with y | y
              · exact T8.nd e y
              · rw [y]; exact nodup_snoc (T8.nd d md) cp
            · rcases mem_set_list he with y | y
              · exact T8.rng e y p hp
              · rw [y] at hp
                rcases List.mem_append.mp hp with y2 | y2
                · exact T8.rng d md p y2
                · have : p = put := by simpa using y2
                  rw [this]; exact pr
            · obtain ⟨z, hz⟩ := List.getElem?_of_mem hq
              have := tlA z q hz
              split at this <;> omega
            · have := O8.app (d := d) (by rw [Int.toNat_natCast]; exact hd')
              rw [Int.toNat_natCast] at this
              exact this
    · rintro σ H6 ⟨u6, more, u11, u12, u13, u14, u15, u16, u17, ds, left, lt, sv, rfl, g6, S6, T6, O6⟩
      refine kN1 _ _ ?_
      have cnt := T6.cnt
      have := T6.ll
      have := T6.mm
      have l0 : left = [] := List.eq_nil_of_length_eq_zero (by omega)
      subst l0
      exact ⟨_, _, _, _, _, _, _, _, _, ds, lt, sv, rfl, g6, S6, ⟨_, _, T6⟩, O6⟩
  · clear S5 T5 O5 g5'
    rintro σ H6 ⟨u6, more, u11, u12, u13, u14, u15, u16, u17, ds, lt, sv, rfl, g6, S6, ⟨i, b, T6⟩, O6⟩
    have isr := ran_rec T6 O6 (by omega) (by omega) p30 hws
    have lrs : rs.length = ds.length := S6.rs.1
    have ld6 := T6.ld
    walk_at "ws"
    refine i_list (SqL.of S6.dl) ?_
    intro D hD
    refine lc_it (walk_list (xs := rs.map V.ref)) (fun i H' => ∃ fs : List Addr, G none H6 H' ∧ H' D = some (.lst (fs.map V.ref)) ∧ fs.length = i ∧ ∀ (j : Nat) (f : Addr) (d : List Int), fs[j]? = some f → ds[j]? = some d → FrzT H' f (d.map V.int)) ⟨[], (G.refl).mut hD (fun _ e => nomatch e), upd_same, rfl, (fun j f d e => by simp at e)⟩ (fun i H' _ ⟨_, q, _⟩ => SqL.of (q.all _ _ S6.dl)) ?_ ?_
    · rintro j v _ H7 hj ⟨fs, g7, h7, lfs, hfs⟩ ⟨rfl, hv'⟩
      rw [List.length_map] at hj
      rw [List.getElem?_map] at hv'
      obtain ⟨l, hl, rfl⟩ := Option.map_eq_some_iff.mp hv'
      obtain ⟨d, hd'⟩ : ∃ d, ds[j]? = some d := ⟨_, List.getElem?_eq_getElem (by omega)⟩
      walk_at "ws"
      refine ⟨rfl, ?_⟩
      walk_at "ws"
      refine ⟨l, _, rfl, SqL.of (g7.all _ _ (S6.rs.2 j l d hl hd')), fun f H8 hf g8 h8 => ?_⟩
      have h8D := (g8 none).all _ _ h7
      refine ⟨fs.map V.ref, h8D, Nat.lt_of_le_of_lt (by rw [List.length_map]; omega : (fs.map V.ref).length ≤ 100000) (by decide), fs ++ [f], (g7.trans (g8 none)).mut hD (fun _ e => nomatch e), by rw [upd_same, List.map_append]; rfl, by rw [List.length_append, lfs]; rfl, fun j2 f2 d2 e1 e2 => ?_⟩
      by_cases cj : j2 < fs.length
      · rw [List.getElem?_append_left cj] at e1
        exact FrzT.put ((hfs j2 f2 d2 e1 e2).n (g8 none)) h8D
      · have ej : j2 = j := by
          have := (List.getElem?_eq_some_iff.mp e1).1
          rw [List.length_append, List.length_singleton] at this
          omega
        subst ej
        rw [List.getElem?_append_right (by omega), lfs, Nat.sub_self] at e1
        rw [hd'] at e2
        cases e1; cases e2
        exact FrzT.put h8 h8D
    rintro H7 ⟨fs, g7, h7, lfs, hfs⟩
    rw [List.length_map] at lfs
    walk_at "ws"
    refine ⟨D, _, rfl, .inl ⟨SqL.of h7, fun dt H8 hdt g8 h8 => ?_⟩⟩
    walk_at "ws"
    refine ⟨sz (by simp), fun p H9 hp g9 h9 => ?_⟩
    have g69 := (g7.trans (g8 none)).trans (g9 none)
    have g09 := g6.trans g69.up
    exact k p dt st ds H9 g09 (g09.hand (hd, c) rfl hh) h9 ⟨fs, sqT_t (g9 none).tups (SqT.of h8), by omega, fun j f d e1 e2 => ((hfs j f d e1 e2).n (g8 none)).n (g9 none)⟩ ld6 isr

end
end Mine
/-! ## K12 -/


namespace Mine
section
variable {P : Program} {w : World} {K : PySem.W.Frag} {mg : Str → Option Value} {base : Heap} {a : Ads}

/-! ### a web, writers, diaries -/
def sp__law_parts (K : PySem.W.Frag) : Sp := fun vs H Q _ => ∃ (hd c : Addr) (mm mp : Int), vs = [.ref hd, .int mm, .int mp] ∧ Hand H hd c ∧ 1 ≤ mm ∧ mm ≤ 7 ∧ 0 ≤ mp ∧ mp ≤ 30 ∧
  ∀ (p wa vp dt : Addr) (m : Int) (ws : List Int) (ds : List (List Int)) H', G (some (hd, c)) H H' → Hand H' hd c → H' p = some (.tup [.int m, .ref wa, .ref vp, .ref dt]) → SqT K H' vp (ws.map V.int) → Dia K H' dt ds → ds.length = m.toNat → 1 ≤ m → m ≤ 7 → IsRec ws ds → ws.length ≤ mp.toNat → ∀ (bs : List Addr) (W : List (Int × Int)), SqT K H' wa (bs.map V.ref) → TupAll H' bs W → IsWeb m W → Q (.ref p) H'
theorem ok__law_parts (T : Txt K mg a) : FnOk P w K mg base CX0 3 a.f__law_parts a.d__law_parts P__law_parts (sp__law_parts K) := by
  refine T.F__law_parts.ok sc__law_parts (fun vs H Q E h => by obtain ⟨hd, c, mm, mp, rfl, _⟩ := h; rfl) (fun cdv A outer s H vs Q E hr h => ?_)
  obtain ⟨hd, c, mm, mp, rfl, hh, mm1, mm7, mp0, mp30, k⟩ := h
  have G__law_draw : FnOk P w K mg base CX0 1 a.f__law_draw a.d__law_draw P__law_draw sp__law_draw := ok__law_draw T
  have G__law_web : FnOk P w K mg base CX0 2 a.f__law_web a.d__law_web P__law_web (sp__law_web K) := ok__law_web T
  have G__law_ran : FnOk P w K mg base CX0 2 a.f__law_ran a.d__law_ran P__law_ran (sp__law_ran K) := ok__law_ran T
  have G__law_bent : FnOk P w K mg base CX0 2 a.f__law_bent a.d__law_bent P__law_bent (sp__law_bent K) := ok__law_bent T
  refine ⟨_, (pss_cons (ps_set (i := 3) sc__law_parts.nd rfl (Or.inr rfl) (pe_op op_add pe_int (pe_call (G__law_draw) (hr.mono (by omega)) rfl T.m__law_draw T.F__law_draw.kp T.b__law_draw .nil pass0 (pa_cons (pv 0) (pa_cons (pv 1) pa_nil)))))
  (pss_cons (ps_set (i := 4) sc__law_parts.nd rfl (Or.inl rfl) (pe_call (G__law_web) (hr.mono (by omega)) rfl T.m__law_web T.F__law_web.kp T.b__law_web .nil pass0 (pa_cons (pv 0) (pa_cons (pv 3) pa_nil))))
  (pss_cons (ps_set (i := 5) sc__law_parts.nd rfl (Or.inl rfl) (pe_callTy call_tupleN (by rfl) T.n_tuple (by decide +kernel) (pa_cons (pe_lc (own := [("_law_put", 8)]) (g := (gName 8)) (tt := tYes) rfl sc__law_parts.nd (pi_range1 rfl T.n_range (pa_cons (pe_call (G__law_draw) (hr.mono (by omega)) rfl T.m__law_draw T.F__law_draw.kp T.b__law_draw .nil pass0 (pa_cons (pv 0) (pa_cons (pe_op op_add (pv 2) pe_int) pa_nil))) pa_nil)) (blkOk_by (N := N__law_parts) (sc := defScope s__law_parts) (by decide +kernel)) (fun _ _ _ _ _ => (pg_name (i := 8) sc__law_parts.nd rfl (by first | exact Or.inl rfl | exact Or.inr rfl))) (fun _ _ _ _ _ => pts_nil) (fun _ _ _ _ _ => (pe_call (G__law_draw) (hr.mono (by omega)) rfl T.m__law_draw T.F__law_draw.kp T.b__law_draw .nil pass0 (pa_cons (pv 0) (pa_cons (pv 3) pa_nil))))) pa_nil)))
  (pss_cons (ps_set (i := 6) sc__law_parts.nd rfl (Or.inl rfl) (pe_ix ix_tup (pe_call (G__law_ran) (hr.mono (by omega)) rfl T.m__law_ran T.F__law_ran.kp T.b__law_ran .nil pass0 (pa_cons (pv 0) (pa_cons (pv 3) (pa_cons (pv 4) (pa_cons (pv 5) (pa_cons (pe_call (G__law_draw) (hr.mono (by omega)) rfl T.m__law_draw T.F__law_draw.kp T.b__law_draw .nil pass0 (pa_cons (pv 0) (pa_cons pe_int pa_nil))) pa_nil)))))) pe_int (fun _ _ => rfl)))
  (pss_cons (ps_for PassesOwn.never rfl (pi_range1 rfl T.n_range (pa_cons (pe_callB (call_max2 rfl) (by rfl) T.n_max (by decide +kernel) (pa_cons pe_int (pa_cons (pe_op op_sub (pe_call (G__law_draw) (hr.mono (by omega)) rfl T.m__law_draw T.F__law_draw.kp T.b__law_draw .nil pass0 (pa_cons (pv 0) (pa_cons pe_int pa_nil))) pe_int) pa_nil))) pa_nil)) (pg_name (i := 7) sc__law_parts.nd rfl (Or.inl rfl))
    (pss_one (ps_set (i := 6) sc__law_parts.nd rfl (Or.inl rfl) (pe_call (G__law_bent) (hr.mono (by omega)) rfl T.m__law_bent T.F__law_bent.kp T.b__law_bent .nil pass0 (pa_cons (pv 0) (pa_cons (pv 5) (pa_cons (pv 6) pa_nil)))))))
  (pss_one (ps_ret (pe_tupN (pa_cons (pv 3) (pa_cons (pv 4) (pa_cons (pv 5) (pa_cons (pv 6) pa_nil)))))))))))), ?_⟩
  walk_at "ws"
  refine ⟨hd, c, mm, rfl, hh, by omega, by omega, fun r H1 r0 r1 g1 hh1 => ?_⟩
  obtain ⟨m, em⟩ : ∃ m : Int, m = 1 + r := ⟨_, rfl⟩
  walk_at "ws"
  rw [← em]
  have m1 : 1 ≤ m := by omega
  have m7 : m ≤ 7 := by omega
  refine ⟨hd, c, m, rfl, hh1, m1, m7, fun wa bs W H2 g2 hh2 hwa tup web => ?_⟩
  walk_at "ws"
  refine ⟨hd, c, _, rfl, hh2, by omega, by omega, fun r2 H3 r20 r21 g3 hh3 => ?_⟩
  have hwa3 := sqT_t g3.tups hwa
  have tup3 := tup.g g3 (fun p e => by cases e; exact hh2)
  walk_at "ws"
  refine i_rng1 (by omega) (by omega) ?_
  intro D hD
  have hh3p : ∀ p, some (hd, c) = some p → Hand H3 p.1 p.2 := fun p e => by cases e; exact hh3
  refine lc_data (K := K) (o := some (hd, c)) walk_range (by omega) hD hh3p (fun i acc _ => ∃ ns : List Int, acc = ns.map PyData.int ∧ (∀ w ∈ ns, 0 ≤ w ∧ w < m) ∧ ns.length ≤ i) (fun _ _ _ _ _ h _ => h) ⟨[], rfl, (fun _ h => nomatch h), Nat.le_refl _⟩ (fun _ _ _ _ _ => trivial) ?_ ?_
  · rintro i _ acc _ H4 hi g4 ⟨ns, rfl, hns, ln⟩ ⟨rfl, rfl⟩ Qy Qn ky kn
    walk_at "ws"
    refine ⟨rfl, ?_⟩
    walk_at "ws"
    refine ⟨hd, c, m, rfl, g4.hand (hd, c) rfl hh3, by omega, by omega, fun w H5 w0 w1 g5 hh5 => ?_⟩
    refine ky _ _ _ g5 (.int w) rfl ⟨ns ++ [w], by rw [List.map_append]; rfl, fun v hv => ?_, by rw [List.length_append, List.length_singleton]; omega⟩
    rcases List.mem_append.mp hv with z | z
    · exact hns v z
    · have e : v = w := by simpa using z
      rw [e]; exact ⟨w0, w1⟩
  rintro _ xs H4 ⟨ws, rfl, hws, lw⟩ g4 hD4 hds _
  obtain rfl := DpAll.of_ints hds
  have hh4 : Hand H4 hd c := g4.hand (hd, c) rfl hh3
  walk_at "ws"
  refine ⟨D, _, rfl, .inl ⟨SqL.of hD4, fun vp H5 hvp g5 h5 => ?_⟩⟩
  have hh5 := (g5 (some (hd, c))).hand _ rfl hh4
  have g35 := g4.trans (g5 _)
  have hwa5 := sqT_t g35.tups hwa3
  have tup5 := tup3.g g35 hh3p
  walk_at "ws"
  refine ⟨hd, c, 40, rfl, hh5, by decide, by decide, fun most H6 s0 s1 g6 hh6 => ?_⟩
  walk_at "ws"
  have hvp6 : SqT K H6 vp (ws.map V.int) := sqT_t g6.tups (SqT.of h5)
  refine ⟨hd, c, m, wa, bs, W, vp, ws, most, rfl, hh6, sqT_t g6.tups hwa5, tup5.g g6 (fun p e => by cases e; exact hh5), web, hvp6, by omega, hws, s0, by omega, fun q dt st ds H7 g7 hh7 hq hdia ld rec => ?_⟩
  refine r_ixT (SqT.of hq) (v := .ref dt) rfl ?_
  have hvp7 := sqT_t g7.tups hvp6
  have hwa7 := sqT_t (g6.trans g7).tups hwa5
  have tup7 := (tup5.g g6 (fun p e => by cases e; exact hh5)).g g7 (fun p e => by cases e; exact hh6)
  have g07 := (((g1.trans g2).trans g3).trans g35).trans (g6.trans g7)
  walk_at "ws"
  refine ⟨hd, c, 4, rfl, hh7, by decide, by decide, fun r3 H8 r30 r31 g8 hh8 => ?_⟩
  walk_at "ws"
  refine ⟨_, _, rfl, ?_⟩
  refine i_rng1 (by split <;> omega) (by split <;> omega) ?_
  refine for_it walk_range (fun i σ H' => ∃ (dt : Addr) (ds : List (List Int)) (u7 u8 : Option V), σ = [some (.ref hd), some (.int mm), some (.int mp), some (.int m), some (.ref wa), some (.ref vp), some (.ref dt), u7, u8] ∧ G (some (hd, c)) H H' ∧ SqT K H' vp (ws.map V.int) ∧ Dia K H' dt ds ∧ ds.length = m.toNat ∧ IsRec ws ds ∧ SqT K H' wa (bs.map V.ref) ∧ TupAll H' bs W) ⟨dt, ds, _, _, rfl, g07.trans g8, sqT_t g8.tups hvp7, hdia.g g8 (fun p e => by cases e; exact hh7), ld, rec, sqT_t g8.tups hwa7, tup7.g g8 (fun p e => by cases e; exact hh7)⟩ (fun _ _ _ _ _ => trivial) ?_ ?_
  · rintro i _ σ _ H9 hi ⟨dt, ds, u7, u8, rfl, g9, hv9, hd9, ld, rec, hwa9, tup9⟩ ⟨rfl, rfl⟩
    walk_at "ws"
    refine ⟨hd, c, vp, dt, ws, ds, rfl, g9.hand (hd, c) rfl hh, hv9, hd9, rec, fun p ds' HA gA hhA hdA recA lA => ?_⟩
    walk_at "ws"
    exact ⟨p, ds', _, _, rfl, g9.trans gA, sqT_t gA.tups hv9, hdA, by omega, recA, sqT_t gA.tups hwa9, tup9.g gA (fun p e => by cases e; exact g9.hand (hd, c) rfl hh)⟩
  · rintro σ H9 ⟨dt, ds, u7, u8, rfl, g9, hv9, hd9, ld, rec, hwa9, tup9⟩
    walk_at "ws"
    refine ⟨sz (by simp), fun q HA hq gA hA => ?_⟩
    exact k q wa vp dt m ws ds HA (g9.trans (gA _)) ((g9.trans (gA _)).hand (hd, c) rfl hh) hA (sqT_t (gA none).tups hv9) (hd9.n (gA none)) ld m1 m7 rec (by omega) bs W (sqT_t (gA none).tups hwa9) (tup9.g (gA none) (fun _ e => nomatch e)) web

end
end Mine
/-! ## K20 -/


namespace Mine
section
variable {P : Program} {w : World} {K : PySem.W.Frag} {mg : Str → Option Value} {base : Heap} {a : Ads}

/-! ### where each put stands -/
section
variable {J : It} {n : Nat} {Gd : Hp → Prop} {Y : Nat → Hp → V → Hp → Prop} {g : TG} {tt : TT} {tk tv : TE} {vs : List Nat} {σ : L2.St} {H1 : Hp} {D : Addr} {Qd : Hp → Prop}
theorem dc_it (w : Walk J n Gd Y) (Pv : Nat → Hp → Prop) (h0 : Pv 0 (upd H1 D (.dK []))) (hG : ∀ i H, i ≤ n → Pv i H → Gd H)
    (hs : ∀ i x H H', i < n → Pv i H → Y i H x H' → g x (wipe σ vs) H' fun σ2 H2 => wipe σ2 vs = wipe σ vs ∧ tt σ2 H2 fun b H3 =>
      if b = true then tk σ2 H3 fun y H4 => tv σ2 H4 fun z H5 => ∃ kvs k, y = kV k ∧ H5 D = some (.dK kvs) ∧ kvs.length < sizeLine ∧ Pv (i + 1) (upd H5 D (.dK (putK kvs k z))) else Pv (i + 1) H3) (hd : ∀ H, Pv n H → Qd H) :
    ∃ W : Nat → Nat → Hp → Prop, (∃ m, W 0 m (upd H1 D (.dK []))) ∧ ∀ i m H, W i m H →
      (J.stop i H ∧ Qd H) ∨ (J.go i H ∧ ∃ Nx : Hp → Prop, (∀ H', Nx H' → ∃ m', m' < m ∧ W (i + 1) m' H') ∧ ∀ x H', J.yld i H x H' → g x (wipe σ vs) H' fun σ2 H2 => wipe σ2 vs = wipe σ vs ∧ tt σ2 H2 fun b H3 =>
        if b = true then tk σ2 H3 fun y H4 => tv σ2 H4 fun z H5 => ∃ kvs k, y = kV k ∧ H5 D = some (.dK kvs) ∧ kvs.length < sizeLine ∧ Nx (upd H5 D (.dK (putK kvs k z))) else Nx H3) := by
  refine ⟨fun i m H => m = n - i ∧ i ≤ n ∧ Pv i H, ⟨n, by simp, Nat.zero_le _, h0⟩, ?_⟩
  rintro i m H ⟨rfl, hi, p⟩
  have q := hG i H hi p
  by_cases c : i < n
  · exact .inr ⟨w.goes i H c q, Pv (i + 1), fun H' p' => ⟨n - (i + 1), by omega, rfl, c, p'⟩, fun x H' y => hs i x H H' c p (w.yields i H x H' c q y)⟩
  · obtain rfl : i = n := by omega
    exact .inl ⟨w.stops H q, hd H p⟩
theorem w_dc {wi : TI} {Q : VK} (q : wi σ H1 fun J H1 => ∀ D, H1 D = none → ∃ W : Nat → Nat → Hp → Prop, (∃ m, W 0 m (upd H1 D (.dK []))) ∧ ∀ i m H, W i m H →
  (J.stop i H ∧ Q (.ref D) H) ∨ (J.go i H ∧ ∃ Nx : Hp → Prop, (∀ H', Nx H' → ∃ m', m' < m ∧ W (i + 1) m' H') ∧ ∀ x H', J.yld i H x H' → g x (wipe σ vs) H' fun σ2 H2 => wipe σ2 vs = wipe σ vs ∧ tt σ2 H2 fun b H3 =>
    if b = true then tk σ2 H3 fun y H4 => tv σ2 H4 fun z H5 => ∃ kvs k, y = kV k ∧ H5 D = some (.dK kvs) ∧ kvs.length < sizeLine ∧ Nx (upd H5 D (.dK (putK kvs k z))) else Nx H3)) : tDc wi g tt tk tv vs σ H1 Q := q
end
/-- each put with its place -/
def kvPl : Nat → List Int → List (Key × V)
  | _, [] => []
  | i, z :: d => ((Sum.inl z : Key), V.int (i : Nat)) :: kvPl (i + 1) d
theorem kvPl_keys : ∀ (i : Nat) (d : List Int), (kvPl i d).map (·.1) = d.map Sum.inl
  | _, [] => rfl
  | i, z :: d => by show Sum.inl z :: (kvPl (i + 1) d).map (·.1) = _; rw [kvPl_keys (i + 1) d]; rfl
theorem kvPl_snoc : ∀ (i : Nat) (d : List Int) (z : Int), kvPl i (d ++ [z]) = kvPl i d ++ [((Sum.inl z : Key), V.int ((i + d.length : Nat)))]
  | i, [], z => rfl
  | i, y :: d, z => by
    show _ :: kvPl (i + 1) (d ++ [z]) = _
    rw [kvPl_snoc (i + 1) d z, List.length_cons]
    have e : i + 1 + d.length = i + (d.length + 1) := by omega
    rw [e]; rfl
theorem kvPl_val : ∀ (i : Nat) (d : List Int) (z : Int), z ∈ d → valV (kvPl i d) (Sum.inl z) = some (.int ((i + d.idxOf z : Nat)))
  | _, [], _, h => nomatch h
  | i, y :: d, z, h => by
    by_cases c : y = z
    · subst c
      rw [List.idxOf_cons_self]
      exact valV_pos rfl
    · refine (valV_neg fun e => c (Sum.inl.inj e)).trans ?_
      have hm : z ∈ d := (List.mem_cons.mp h).resolve_left fun e => c e.symm
      have ei : (y :: d).idxOf z = d.idxOf z + 1 := by
        have cb : (y == z) = false := by simpa using c
        rw [List.idxOf_cons, cb]; rfl
      rw [kvPl_val (i + 1) d z hm, ei]
      have e : i + 1 + d.idxOf z = i + (d.idxOf z + 1) := by omega
      rw [e]
theorem kvPl_some (d : List Int) (z : Int) : (valV (kvPl 0 d) (Sum.inl z)).isSome = decide (z ∈ d) := by rw [← valV_any, kv_any (kvPl_keys 0 d)]
def sp_places_in (K : PySem.W.Frag) : Sp := fun vs H Q _ => ∃ (p : Addr) (d : List Int), vs = [.ref p] ∧ SqT K H p (d.map V.int) ∧ d.Nodup ∧ d.length ≤ 1000 ∧ ∀ q H', H q = none → G none H H' → H' q = some (.dK (kvPl 0 d)) → Q (.ref q) H'
theorem ok_places_in (T : Txt K mg a) : FnOk P w K mg base CX0 1 a.f_places_in a.d_places_in P_places_in (sp_places_in K) := by
  refine T.F_places_in.ok sc_places_in (fun vs H Q E h => by obtain ⟨p, d, rfl, _⟩ := h; rfl) (fun cdv A outer s H vs Q E hr h => ?_)
  obtain ⟨p, d, rfl, hp, nd, hz, k⟩ := h
  refine ⟨_, (pss_one (ps_ret (pe_dc (own := [("at", 1), ("put", 2)]) (g := (gTup K 2 (gCons (gName 1) (gCons (gName 2) gNil)))) (tt := tYes) rfl sc_places_in.nd (pi_enumT (by rfl) T.n_enumerate (pa_cons (pv 0) pa_nil)) (blkOk_by (N := N_places_in) (sc := defScope s_places_in) (by decide +kernel)) (fun _ _ _ _ _ => (pg_tup rfl (pgs_cons (pg_name (i := 1) sc_places_in.nd rfl (by first | exact Or.inl rfl | exact Or.inr rfl)) (pgs_cons (pg_name (i := 2) sc_places_in.nd rfl (by first | exact Or.inl rfl | exact Or.inr rfl)) pgs_nil)))) (fun _ _ _ _ _ => pts_nil) (fun _ _ _ _ _ => (pv 2)) (fun _ _ _ _ _ => (pv 1))))), ?_⟩
  walk_at "ws"
  refine w_dc ?_
  walk_at "ws"
  refine i_enum hp ?_
  intro D hD
  refine dc_it (walk_enumT (xs := d.map V.int)) (fun i H' => G none H H' ∧ H' D = some (.dK (kvPl 0 (d.take i)))) ⟨(G.refl).mut hD (fun _ e => nomatch e), upd_same⟩ (fun i H' _ q => sqT_t q.1.tups hp) ?_ ?_
  · rintro i x H1 H2 hi ⟨g1, h1⟩ ⟨t, y, z, rfl, ht, rfl, ey, ez⟩
    cases Option.some.inj ey
    have g2 : G none H1 (upd H1 t (.tup [.int (i : Nat), z])) := G.alloc ht
    refine ⟨t, _, rfl, SqT.of upd_same, rfl, ?_⟩
    refine ⟨_, _, rfl, ?_⟩
    walk_at "ws"
    refine ⟨_, _, rfl, ?_⟩
    walk_at "ws"
    refine ⟨rfl, rfl, ?_⟩
    rw [List.length_map] at hi
    have ez : (d.map V.int)[i]? = some z := ez
    rw [List.getElem?_map] at ez
    obtain ⟨v, hv, rfl⟩ := Option.map_eq_some_iff.mp ez
    have h2 := g2.all _ _ h1
    generalize upd H1 t (.tup [.int (i : Nat), .int v]) = H2 at g2 h2 ⊢
    walk_at "ws"
    have tk : d.take (i + 1) = d.take i ++ [v] := by rw [List.take_add_one, hv]; rfl
    have no : v ∉ d.take i := fun m => by
      obtain ⟨j, hj, e⟩ := List.getElem_of_mem m
      rw [List.length_take] at hj
      rw [List.getElem_take] at e
      have e2 := (List.getElem?_eq_some_iff.mp hv)
      have := nd_at nd (by omega) e2.1 (e.trans e2.2.symm)
      omega
    have lk : (kvPl 0 (d.take i)).length = i := by
      have := congrArg List.length (kvPl_keys 0 (d.take i))
      rw [List.length_map, List.length_map, List.length_take] at this
      omega
    refine ⟨_, Sum.inl v, rfl, h2, Nat.lt_of_le_of_lt (by omega : (kvPl 0 (d.take i)).length ≤ 1000) (by decide), (g1.trans g2).mut hD (fun _ e => nomatch e), ?_⟩
    rw [upd_same, kv_put (kvPl_keys 0 (d.take i)) no, tk, kvPl_snoc]
    have e : 0 + (d.take i).length = i := by rw [List.length_take]; omega
    rw [e]
  · rintro H1 ⟨g1, h1⟩
    rw [List.length_map, List.take_length] at h1
    walk_at "ws"
    exact k D H1 hD g1 h1

def GrowD (dy dx : List Int) (p : Int) : Prop := p ∈ dy ∧ p ∈ dx ∧ ∀ q ∈ aheadOf dy p, q ∈ aheadOf dx p
theorem ahead_at {d : List Int} (nd : d.Nodup) {i : Nat} {p : Int} (h : d[i]? = some p) : aheadOf d p = d.take i := by
  have e := List.getElem?_eq_some_iff.mp h
  have z : d.idxOf p < d.length := List.idxOf_lt_length_iff.mpr (List.mem_of_getElem? h)
  have := nd_at nd z e.1 ((List.getElem_idxOf z).trans e.2.symm)
  unfold aheadOf
  rw [this]
theorem mem_ahead {d : List Int} (nd : d.Nodup) {q p : Int} (hq : q ∈ d) : q ∈ aheadOf d p ↔ d.idxOf q < d.idxOf p := by unfold aheadOf; exact mem_take_idx nd hq
def sp_grown_over (K : PySem.W.Frag) : Sp := fun vs H Q _ => ∃ (p q : Addr) (dy dx : List Int), vs = [.ref p, .ref q] ∧ SqT K H p (dy.map V.int) ∧ H q = some (.dK (kvPl 0 dx)) ∧ dy.Nodup ∧ dx.Nodup ∧ dy.length ≤ 1000 ∧ ∀ D (ns : List Int) H', H D = none → G none H H' → H' D = some (.lst (ns.map V.int)) → ns.Nodup → (∀ p, p ∈ ns ↔ GrowD dy dx p) → Q (.ref D) H'
theorem ok_grown_over (T : Txt K mg a) : FnOk P w K mg base CX0 1 a.f_grown_over a.d_grown_over P_grown_over (sp_grown_over K) := by
  refine T.F_grown_over.ok sc_grown_over (fun vs H Q E h => by obtain ⟨p, q, dy, dx, rfl, _⟩ := h; rfl) (fun cdv A outer s H vs Q E hr h => ?_)
  obtain ⟨p, q, dy, dx, rfl, hp, hq, ndy, ndx, hz, k⟩ := h
  refine ⟨_, (pss_cons (ps_set (i := 2) sc_grown_over.nd rfl (Or.inl rfl) (pe_lstN pa_nil))
  (pss_cons (ps_set (i := 3) sc_grown_over.nd rfl (Or.inl rfl) (pe_un un_neg pe_int))
  (pss_cons (ps_for PassesOwn.never rfl (pi_tup (pv 0)) (pg_name (i := 4) sc_grown_over.nd rfl (Or.inl rfl))
    (pss_cons (ps_if (pt_cmp (pc_dnotin (hu_of hr) (pv 4) (pv 1)))
    (pss_one (ps_ret (pv 2)))
    pss_nil)
  (pss_one (ps_if (pt_cmpR op_gt (pe_dget (hu_of hr) (pv 1) (pv 4) (by first | exact fun _ _ => rfl | rfl | decide)) (pv 3) (nomark _))
    (pss_cons (ps_set (i := 3) sc_grown_over.nd rfl (Or.inl rfl) (pe_dget (hu_of hr) (pv 1) (pv 4) (by first | exact fun _ _ => rfl | rfl | decide)))
  (pss_one (ps_expr (pe_bm PySem.F.plainAttrs_list PySem.F.slot_list_append PySem.F.type_list_append mt_append (pv 2) (pa_cons (pv 4) pa_nil)))))
    pss_nil))))
  (pss_one (ps_ret (pv 2)))))), ?_⟩
  walk_at "ws"
  refine ⟨sz (by simp), fun D H1 hD g1 h1 => ?_⟩
  walk_at "ws"
  refine i_tup (sqT_t (g1 none).tups hp) ?_
  refine for_it (walk_tup (xs := dy.map V.int)) (fun i σ H' => ∃ (ns : List Int) (L : Int) (u4 : Option V), σ = [some (.ref p), some (.ref q), some (.ref D), some (.int L), u4] ∧ G none H H' ∧ H' D = some (.lst (ns.map V.int)) ∧ ns.Nodup ∧ (∀ z, z ∈ ns ↔ z ∈ dy.take i ∧ GrowD dy dx z) ∧ (∀ z ∈ dy.take i, z ∈ dx ∧ (dx.idxOf z : Int) ≤ L) ∧ (L = -1 ∨ ∃ z ∈ dy.take i, L = (dx.idxOf z : Int)) ∧ ns.length ≤ i)
    ⟨[], -1, _, rfl, g1 none, h1, by simp, (fun z => by simp), (fun z hz => by simp at hz), .inl rfl, Nat.le_refl _⟩ (fun i σ H' _ ⟨_, _, _, _, q, _⟩ => sqT_t q.tups hp) ?_ ?_
  · rintro i v σ _ H2 hi ⟨ns, L, u4, rfl, g2, h2, nn, mem, low, top_, ln⟩ ⟨rfl, hv⟩
    rw [List.getElem?_map] at hv
    obtain ⟨z, hz', rfl⟩ := Option.map_eq_some_iff.mp hv
    rw [List.length_map] at hi
    have tk : dy.take (i + 1) = dy.take i ++ [z] := by rw [List.take_add_one, hz']; rfl
    have az := ahead_at ndy hz'
    have zy : z ∈ dy := List.mem_of_getElem? hz'
    have no : z ∉ dy.take i := fun m => by
      obtain ⟨j, hj, e⟩ := List.getElem_of_mem m
      rw [List.length_take] at hj
      rw [List.getElem_take] at e
      have e2 := (List.getElem?_eq_some_iff.mp hz')
      have := nd_at ndy (by omega) e2.1 (e.trans e2.2.symm)
      omega
    have hq2 := g2.all _ _ hq
    walk_at "ws"
    show tVar 4 _ _ _
    walk_at "ws"
    refine ⟨q, _, rfl, DGet.k (k := Sum.inl z) hq2, ?_⟩
    rw [kvPl_some]
    walk_at "ws"
    refine w_ite (fun e => ?_) (fun e => ?_)
    · have zx : z ∉ dx := by simpa using e
      walk_at "ws"
      refine k D ns H2 hD g2 h2 nn fun r => ?_
      rw [mem]
      refine ⟨fun h => h.2, fun h => ⟨?_, h⟩⟩
      obtain ⟨j, hj, ej⟩ := List.getElem_of_mem h.1
      rcases Nat.lt_trichotomy j i with c | c | c
      · rw [List.mem_take_iff_getElem]; exact ⟨j, by omega, ej⟩
      · subst c
        rw [List.getElem?_eq_getElem hj, ej] at hz'
        cases hz'
        exact absurd h.2.1 zx
      · have ar := ahead_at ndy (List.getElem?_eq_getElem hj)
        rw [ej] at ar
        have := h.2.2 z (by rw [ar, List.mem_take_iff_getElem]; exact ⟨i, by omega, (List.getElem?_eq_some_iff.mp hz').2⟩)
        exact absurd (List.mem_of_mem_take this) zx
    · have zx : z ∈ dx := of_decide_eq_true (by cases h : decide (z ∈ dx) with | true => rfl | false => rw [h] at e; cases e)
      walk_at "ws"
      refine w_dget ?_
      walk_at "ws"
      refine ⟨q, _, rfl, by have := DGet.k (k := Sum.inl z) hq2; rw [kvPl_val 0 dx z zx, Nat.zero_add] at this; exact this, ?_⟩
      walk_at "ws"
      refine w_ite (fun e2 => ?_) (fun e2 => ?_)
      · have e2 : L < (dx.idxOf z : Int) := of_decide_eq_true e2
        have gz : GrowD dy dx z := ⟨zy, zx, fun r hr => by
          rw [az] at hr
          have := low r hr
          exact (mem_ahead ndx this.1).mpr (by omega)⟩
        walk_at "ws"
        refine w_dget ?_
        walk_at "ws"
        refine ⟨q, _, rfl, by have := DGet.k (k := Sum.inl z) hq2; rw [kvPl_val 0 dx z zx, Nat.zero_add] at this; exact this, ?_⟩
        walk_at "ws"
        refine i_BM h2 ?_
        walk_at "ws"
        refine r_app h2 (by rw [List.length_map]; omega) ?_
        walk_at "ws"
        refine ⟨ns ++ [z], (dx.idxOf z : Int), _, rfl, g2.mut hD (fun _ e => nomatch e), by rw [upd_same, List.map_append]; rfl, ?_, fun r => ?_, fun r hr => ?_, .inr ⟨z, by rw [tk]; simp, rfl⟩, by rw [List.length_append, List.length_singleton]; omega⟩
        · exact List.nodup_append.mpr ⟨nn, by simp, fun a ha b hb e => by
            have eb : b = z := by simpa using hb
            rw [e, eb] at ha
            exact no ((mem z).mp ha).1⟩
        · rw [List.mem_append, mem, tk, List.mem_append]
          constructor
          · rintro (h | h)
            · exact ⟨.inl h.1, h.2⟩
            · have e : r = z := by simpa using h
              exact ⟨.inr h, by rw [e]; exact gz⟩
          · rintro ⟨h | h, h2⟩
            · exact .inl ⟨h, h2⟩
            · exact .inr h
        · rw [tk] at hr
          rcases List.mem_append.mp hr with h | h
          · have := low r h
            exact ⟨this.1, by omega⟩
          · have e : r = z := by simpa using h
            rw [e]; exact ⟨zx, Int.le_refl _⟩
      · have e2 : ¬ L < (dx.idxOf z : Int) := of_decide_eq_false e2
        walk_at "ws"
        have nz : ¬ GrowD dy dx z := fun h => by
          rcases top_ with t | ⟨r, hr, t⟩
          · omega
          · have h3 := h.2.2 r (by rw [az]; exact hr)
            have := (mem_ahead ndx (low r hr).1).mp h3
            omega
        refine ⟨ns, L, _, rfl, g2, h2, nn, fun r => ?_, fun r hr => ?_, ?_, by omega⟩
        · rw [mem, tk, List.mem_append]
          constructor
          · rintro ⟨h, h2⟩; exact ⟨.inl h, h2⟩
          · rintro ⟨h | h, h2⟩
            · exact ⟨h, h2⟩
            · have e : r = z := by simpa using h
              rw [e] at h2; exact absurd h2 nz
        · rw [tk] at hr
          rcases List.mem_append.mp hr with h | h
          · exact low r h
          · have e : r = z := by simpa using h
            rw [e]; exact ⟨zx, by omega⟩
        · rcases top_ with t | ⟨r, hr, t⟩
          · exact .inl t
          · exact .inr ⟨r, by rw [tk]; exact List.mem_append_left _ hr, t⟩
  · rintro σ H2 ⟨ns, L, u4, rfl, g2, h2, nn, mem, low, top_, ln⟩
    rw [List.length_map, List.take_length] at mem
    walk_at "ws"
    exact k D ns H2 hD g2 h2 nn fun r => by rw [mem]; exact ⟨fun h => h.2, fun h => ⟨h.1, h⟩⟩

end
end Mine
/-! ## K21 -/


namespace Mine
section
variable {P : Program} {w : World} {K : PySem.W.Frag} {mg : Str → Option Value} {base : Heap} {a : Ads}

/-! ### for each put the wires that grow, the machines that have it -/
theorem growL_snoc (W : List (Int × Int)) (ds : List (List Int)) (u : Int × Int) (p : Int) : growL (W ++ [u]) ds p = growL W ds p ++ (if Grow ds u.1.toNat u.2.toNat p then [u] else []) := by
  unfold growL
  rw [List.filter_append]
  congr 1
  by_cases c : Grow ds u.1.toNat u.2.toNat p <;> simp [c]
theorem dAt_of {ds : List (List Int)} {x : Nat} {d : List Int} (h : ds[x]? = some d) : dAt ds x = d := by unfold dAt; rw [List.getD_eq_getElem?_getD, h]; rfl
theorem nd_ixA {ls : List Addr} (nd : ls.Nodup) {i j : Nat} {l : Addr} (h1 : ls[i]? = some l) (h2 : ls[j]? = some l) : i = j := by
  obtain ⟨a1, b1⟩ := List.getElem?_eq_some_iff.mp h1
  obtain ⟨a2, b2⟩ := List.getElem?_eq_some_iff.mp h2
  rcases Nat.lt_trichotomy i j with h | h | h
  · exact absurd (b1.trans b2.symm) (List.pairwise_iff_getElem.mp nd i j a1 a2 h)
  · exact h
  · exact absurd (b2.trans b1.symm) (List.pairwise_iff_getElem.mp nd j i a2 a1 h)
/-- lists of pairs at these places, their tuples known -/
def PLs (K : PySem.W.Frag) (H : Hp) (ls : List Addr) (f : Nat → List (Int × Int)) : Prop := ∀ (p : Nat) (l : Addr), ls[p]? = some l → ∃ bs : List Addr, H l = some (.lst (bs.map V.ref)) ∧ TupAll H bs (f p)
theorem PLs.n {H H' : Hp} {ls : List Addr} {f : Nat → List (Int × Int)} (h : PLs K H ls f) (g : G none H H') : PLs K H' ls f := fun p l e => by
  obtain ⟨bs, h1, h2⟩ := h p l e
  exact ⟨bs, g.all _ _ h1, h2.g g (fun _ z => nomatch z)⟩
theorem ref_lst_inj {bs cs : List Addr} (h : some (HO.lst (bs.map V.ref)) = some (HO.lst (cs.map V.ref))) : bs = cs := by
  have e : bs.map V.ref = cs.map V.ref := by
    injection h with h
    injection h
  exact (List.map_inj_right (fun x y z => by injection z)).mp e
theorem PLs.put {H : Hp} {ls : List Addr} {f : Nat → List (Int × Int)} (h : PLs K H ls f) (nd : ls.Nodup) {p : Nat} {l : Addr} (hl : ls[p]? = some l) {bs : List Addr} (hx : H l = some (.lst (bs.map V.ref))) {t : Addr} {u : Int × Int} (ht : H t = some (.tup [.int u.1, .int u.2])) :
    PLs K (upd H l (.lst (bs.map V.ref ++ [.ref t]))) ls (fun q => f q ++ if q = p then [u] else []) := fun q l' e => by
  obtain ⟨cs, h1, h2⟩ := h q l' e
  by_cases c : q = p
  · subst c
    rw [hl] at e
    cases e
    rw [hx] at h1
    cases ref_lst_inj h1
    refine ⟨bs ++ [t], by rw [upd_same, List.map_append]; rfl, ?_⟩
    dsimp only
    rw [if_pos rfl]
    exact (h2.put hx).app (by rw [upd_ne (ne_of ht hx (by intro z; cases z))]; exact ht)
  · have n : l' ≠ l := fun z => c (by subst z; exact nd_ixA nd e hl)
    dsimp only
    rw [if_neg c, List.append_nil]
    exact ⟨cs, by rw [upd_ne n]; exact h1, h2.put hx⟩
/-- the dicts of places -/
def Dicts (H : Hp) (qs : List Addr) (ds : List (List Int)) : Prop := qs.length = ds.length ∧ ∀ (j : Nat) (q : Addr) (d : List Int), qs[j]? = some q → ds[j]? = some d → H q = some (.dK (kvPl 0 d))
theorem Dicts.keep {H H' : Hp} {qs : List Addr} {ds : List (List Int)} (h : Dicts H qs ds) (k : ∀ q kvs, H q = some (.dK kvs) → H' q = some (.dK kvs)) : Dicts H' qs ds := ⟨h.1, fun j q d e1 e2 => k q _ (h.2 j q d e1 e2)⟩
def sp_wires_by_put (K : PySem.W.Frag) (CW CR : Addr) : Sp := fun vs H Q _ => ∃ (x r : Addr) (m : Int) (W : List (Int × Int)) (ws : List Int) (ds : List (List Int)), vs = [.ref x, .ref r] ∧ WebAt K CW H x m W ∧ IsWeb m W ∧ RecAt K CR H r ws ds ∧ IsRec ws ds ∧ ds.length = m.toNat ∧
  ∀ (R : Addr) (ls : List Addr) H', H R = none → G none H H' → H' R = some (.lst (ls.map V.ref)) → ls.length = ws.length → (∀ l ∈ ls, H l = none) → PLs K H' ls (fun p => growL W ds p) → Q (.ref R) H'
theorem empties {H1 H' : Hp} {ls : List Addr} (h : ∀ l ∈ ls, H1 l = none ∧ H' l = some (.lst [])) : PLs K H' ls (fun _ => []) := fun p l e => ⟨[], (h l (List.mem_of_getElem? e)).2, rfl, fun _ _ _ z => by simp at z⟩
theorem ok_wires_by_put (T : Txt K mg a) : FnOk P w K mg base CX0 2 a.f_wires_by_put a.d_wires_by_put P_wires_by_put (sp_wires_by_put K a.c_Web a.c_Record) := by
  refine T.F_wires_by_put.ok sc_wires_by_put (fun vs H Q E h => by obtain ⟨x, r, m, W, ws, ds, rfl, _⟩ := h; rfl) (fun cdv A outer s H vs Q E hr h => ?_)
  obtain ⟨x, r, m, W, ws, ds, rfl, ⟨dx, wa, hx, hwa⟩, web, ⟨dr, wp, dp, hrr, hwp, bs, hbs, lb, hb⟩, rec, lm, k⟩ := h
  have G_places_in : FnOk P w K mg base CX0 1 a.f_places_in a.d_places_in P_places_in (sp_places_in K) := ok_places_in T
  have G_grown_over : FnOk P w K mg base CX0 1 a.f_grown_over a.d_grown_over P_grown_over (sp_grown_over K) := ok_grown_over T
  have m1 := web.lo
  have m7 := web.hi
  have p30 := rec.p30
  have l49 := isweb_len49 web
  have rc : Rec ws ds := ⟨rec.nd, rec.rng⟩
  obtain ⟨wa', vs, e, hvs, hds⟩ := dp_tup hwa
  cases e
  have lv : vs.length = W.length := by rw [DpAll.length hds, List.length_map]
  refine ⟨_, (pss_cons (ps_setLc (i := 2) (own := [("diary", 7)]) (g := (gName 7)) (tt := tYes)  rfl sc_wires_by_put.nd rfl rfl (sw_true rfl rfl rfl (by decide +kernel)) (pi_tup (pe_fld (pv 1) rfl)) (blkOk_by (N := N_wires_by_put) (sc := defScope s_wires_by_put) (by decide +kernel)) (fun _ _ _ _ _ => (pg_name (i := 7) sc_wires_by_put.nd rfl (by first | exact Or.inl rfl | exact Or.inr rfl))) (fun _ _ _ _ _ => pts_nil) (fun _ _ _ _ _ => (pe_call (G_places_in) (hr.mono (by omega)) rfl T.m_places_in T.F_places_in.kp T.b_places_in .nil pass0 (pa_cons (pv 7) pa_nil))))
  (pss_cons (ps_setLc (i := 3) (own := [("_", 8)]) (g := (gName 8)) (tt := tYes)  rfl sc_wires_by_put.nd rfl rfl (sw_true rfl rfl rfl (by decide +kernel)) (pi_tup (pe_fld (pv 1) rfl)) (blkOk_by (N := N_wires_by_put) (sc := defScope s_wires_by_put) (by decide +kernel)) (fun _ _ _ _ _ => (pg_name (i := 8) sc_wires_by_put.nd rfl (by first | exact Or.inl rfl | exact Or.inr rfl))) (fun _ _ _ _ _ => pts_nil) (fun _ _ _ _ _ => (pe_lstN pa_nil)))
  (pss_cons (ps_for PassesOwn.never rfl (pi_tup (pe_fld (pv 0) rfl)) (pg_tup rfl (pgs_cons (pg_name (i := 4) sc_wires_by_put.nd rfl (Or.inl rfl)) (pgs_cons (pg_name (i := 5) sc_wires_by_put.nd rfl (Or.inl rfl)) pgs_nil)))
    (pss_one (ps_for PassesOwn.never rfl (pi_list (pe_call (G_grown_over) (hr.mono (by omega)) rfl T.m_grown_over T.F_grown_over.kp T.b_grown_over .nil pass0 (pa_cons (pe_ix ix_tup (pe_fld (pv 1) rfl) (pv 4) (fun _ _ => rfl)) (pa_cons (pe_ix ix_list (pv 2) (pv 5) (fun _ _ => rfl)) pa_nil)))) (pg_name (i := 6) sc_wires_by_put.nd rfl (Or.inl rfl))
    (pss_one (ps_expr (pe_bm PySem.F.plainAttrs_list PySem.F.slot_list_append PySem.F.type_list_append mt_append (pe_ix ix_list (pv 3) (pv 6) (fun _ _ => rfl)) (pa_cons (pe_tupN (pa_cons (pv 4) (pa_cons (pv 5) pa_nil))) pa_nil)))))))
  (pss_one (ps_ret (pv 3)))))), ?_⟩
  walk_at "ws"
  refine r_fld hrr T.cl_Record T.na_Record_diaries (rf_d _ _) ?_
  refine i_tup hbs ?_
  intro PD hPD
  refine lc_it (walk_tup (xs := bs.map V.ref)) (fun i H' => ∃ qs : List Addr, G none H H' ∧ H' PD = some (.lst (qs.map V.ref)) ∧ qs.length = i ∧ ∀ (j : Nat) (q : Addr) (d : List Int), qs[j]? = some q → ds[j]? = some d → H' q = some (.dK (kvPl 0 d))) ⟨[], (G.refl).mut hPD (fun _ e => nomatch e), upd_same, rfl, (fun j q d e => by simp at e)⟩ (fun i H' _ ⟨_, q, _⟩ => sqT_t q.tups hbs) ?_ ?_
  · rintro i v _ H1 hi ⟨qs, g1, h1, lq, hqs⟩ ⟨rfl, hv⟩
    rw [List.length_map] at hi
    obtain ⟨b, d, rfl, hbi, hdi, hf⟩ := Dia.at_ (p := dp) lb hb hv
    have dm := List.mem_of_getElem? hdi
    have dl := diary_len (rec.nd d dm) (rec.rng d dm)
    walk_at "ws"
    refine ⟨rfl, ?_⟩
    walk_at "ws"
    refine ⟨b, d, rfl, (hf.n g1).sq, rec.nd d dm, by omega, fun q H2 hq g2 h2 => ?_⟩
    have h2P := g2.all _ _ h1
    have nqP : q ≠ PD := (ne_of_none h1 hq).symm
    refine ⟨qs.map V.ref, h2P, Nat.lt_of_le_of_lt (by rw [List.length_map]; omega : (qs.map V.ref).length ≤ 100000) (by decide), qs ++ [q], (g1.trans g2).mut hPD (fun _ e => nomatch e), by rw [upd_same, List.map_append]; rfl, by rw [List.length_append, lq]; rfl, fun j q' d' e1 e2 => ?_⟩
    by_cases cj : j < qs.length
    · rw [List.getElem?_append_left cj] at e1
      have h3 := g2.all _ _ (hqs j q' d' e1 e2)
      rw [upd_ne (ne_of h3 h2P (by intro z; cases z))]
      exact h3
    · have ej : j = i := by
        have := (List.getElem?_eq_some_iff.mp e1).1
        rw [List.length_append, List.length_singleton] at this
        omega
      subst ej
      rw [List.getElem?_append_right (by omega), lq, Nat.sub_self] at e1
      rw [hdi] at e2
      cases e1; cases e2
      rw [upd_ne nqP]; exact h2
  rintro H1 ⟨qs, g1, h1, lq, hqs⟩
  rw [List.length_map] at lq
  walk_at "ws"
  refine r_fld (g1.all _ _ hrr) T.cl_Record T.na_Record_writers (rf_w _ _) ?_
  refine i_tup (sqT_t g1.tups hwp) ?_
  intro R hR
  have nRP : R ≠ PD := (ne_of_none h1 hR).symm
  refine lc_it (walk_tup (xs := ws.map V.int)) (fun i H' => ∃ ls : List Addr, G none H1 H' ∧ H' R = some (.lst (ls.map V.ref)) ∧ ls.length = i ∧ ls.Nodup ∧ R ∉ ls ∧ ∀ l ∈ ls, H1 l = none ∧ H' l = some (.lst [])) ⟨[], (G.refl).mut hR (fun _ e => nomatch e), upd_same, rfl, List.nodup_nil, (fun h => nomatch h), (fun _ h => nomatch h)⟩ (fun i H' _ ⟨_, q, _⟩ => sqT_t (g1.trans q).tups hwp) ?_ ?_
  · rintro i v _ H2 hi ⟨ls, g2, h2, ll, nd, nR, hls⟩ ⟨rfl, hv⟩
    rw [List.length_map] at hi
    walk_at "ws"
    refine ⟨rfl, ?_⟩
    walk_at "ws"
    refine ⟨sz (by simp), fun l H3 hl g3 h3 => ?_⟩
    have nl : l ≠ R := (ne_of_none h2 hl).symm
    have h3R := (g3 none).all _ _ h2
    refine ⟨ls.map V.ref, h3R, Nat.lt_of_le_of_lt (by rw [List.length_map]; omega : (ls.map V.ref).length ≤ 100000) (by decide), ls ++ [l], (g2.trans (g3 none)).mut hR (fun _ e => nomatch e), by rw [upd_same, List.map_append]; rfl, by rw [List.length_append, ll]; rfl, ?_, ?_, fun l' hl' => ?_⟩
    · refine List.nodup_append.mpr ⟨nd, by simp, fun a ha b hb e => ?_⟩
      have eb : b = l := by simpa using hb
      have := (hls a ha).2
      rw [e, eb, hl] at this; cases this
    · intro h
      rcases List.mem_append.mp h with h | h
      · exact nR h
      · exact nl (by simpa using h : R = l).symm
    · rcases List.mem_append.mp hl' with h | h
      · have n' : l' ≠ R := fun z => nR (z ▸ h)
        exact ⟨(hls l' h).1, by rw [upd_ne n']; exact (g3 none).all _ _ (hls l' h).2⟩
      · have e : l' = l := by simpa using h
        subst e
        exact ⟨new_bk g2 hl, by rw [upd_ne nl]; exact h3⟩
  rintro H2 ⟨ls, g2, h2R, ll, nd, nR, hls⟩
  rw [List.length_map] at ll
  have g02 := g1.trans g2
  have nP : ∀ l ∈ ls, l ≠ PD := fun l hl z => by
    have := (hls l hl).1
    rw [z, h1] at this; cases this
  have hl0 : ∀ l ∈ ls, H l = none := fun l hl => new_bk g1 (hls l hl).1
  have hR0 : H R = none := new_bk g1 hR
  have dic : Dicts H2 qs ds := ⟨by omega, fun j q d e1 e2 => g2.all _ _ (hqs j q d e1 e2)⟩
  have h2P := g2.all _ _ h1
  have pls0 : PLs K H2 ls (fun p => growL (W.take 0) ds p) := empties hls
  clear hqs hls g1 g2 h1 hR hPD
  walk_at "ws"
  refine r_fld (g02.all _ _ hx) T.cl_Web T.na_Web_wires (wf_w _ _) ?_
  refine i_tup (sqT_t g02.tups hvs) ?_
  refine for_it (walk_tup (xs := vs)) (fun i σ H' => ∃ u4 u5 u6, σ = [some (.ref x), some (.ref r), some (.ref PD), some (.ref R), u4, u5, u6, none, none] ∧ G none H H' ∧ H' R = some (.lst (ls.map V.ref)) ∧ H' PD = some (.lst (qs.map V.ref)) ∧ Dicts H' qs ds ∧ PLs K H' ls (fun p => growL (W.take i) ds p)) ⟨_, _, _, rfl, g02, h2R, h2P, dic, pls0⟩ (fun i σ H' _ ⟨_, _, _, _, q, _⟩ => sqT_t q.tups hvs) ?_ ?_
  · rintro i v σ _ H3 hi ⟨u4, u5, u6, rfl, g3, h3R, h3P, dic3, pls3⟩ ⟨rfl, hv⟩
    obtain ⟨d, hd, hvd⟩ := DpAll.get hds hv
    rw [List.getElem?_map] at hd
    obtain ⟨u, hu, rfl⟩ := Option.map_eq_some_iff.mp hd
    obtain ⟨t, rfl, ht⟩ := dp_dP hvd
    have um := web.mem u (List.mem_of_getElem? hu)
    have tk : W.take (i + 1) = W.take i ++ [u] := by rw [List.take_add_one, hu]; rfl
    refine ⟨t, _, rfl, sqT_t g3.tups ht, rfl, ?_⟩
    refine ⟨_, _, rfl, ?_⟩
    walk_at "ws"
    refine ⟨_, _, rfl, ?_⟩
    walk_at "ws"
    refine ⟨rfl, ?_⟩
    have ly : u.1.toNat < ds.length := by omega
    have lx : u.2.toNat < ds.length := by omega
    obtain ⟨dy, hdy⟩ : ∃ d, ds[u.1.toNat]? = some d := ⟨_, List.getElem?_eq_getElem ly⟩
    obtain ⟨dxx, hdx⟩ : ∃ d, ds[u.2.toNat]? = some d := ⟨_, List.getElem?_eq_getElem lx⟩
    obtain ⟨by_, hby⟩ : ∃ b, bs[u.1.toNat]? = some b := ⟨_, List.getElem?_eq_getElem (by omega)⟩
    obtain ⟨qx, hqx⟩ : ∃ q, qs[u.2.toNat]? = some q := ⟨_, List.getElem?_eq_getElem (by have := dic3.1; omega)⟩
    have ym := List.mem_of_getElem? hdy
    have xm := List.mem_of_getElem? hdx
    have dyl := diary_len (rec.nd dy ym) (rec.rng dy ym)
    have hfy := (hb _ _ _ hby hdy).n g3
    walk_at "ws"
    refine r_fld (g3.all _ _ hrr) T.cl_Record T.na_Record_diaries (rf_d _ _) ?_
    walk_at "ws"
    refine r_ixT (sqT_t g3.tups hbs) (v := .ref by_) (at_of (j := u.1.toNat) (by omega) (by rw [List.getElem?_map, hby]; rfl)) ?_
    walk_at "ws"
    refine r_ixL (SqL.of h3P) (v := .ref qx) (at_of (j := u.2.toNat) (by omega) (by rw [List.getElem?_map, hqx]; rfl)) ?_
    walk_at "ws"
    refine ⟨by_, qx, dy, dxx, rfl, hfy.sq, dic3.2 _ _ _ hqx hdx, rec.nd dy ym, rec.nd dxx xm, by omega, fun D ns H4 hD g4 h4 nn mem => ?_⟩
    have h4R := g4.all _ _ h3R
    have nDl : ∀ l ∈ ls, D ≠ l := fun l hl z => by
      obtain ⟨p, hp, e⟩ := List.getElem_of_mem hl
      obtain ⟨xs, h5, _⟩ := pls3 p l (by rw [← e]; exact List.getElem?_eq_getElem hp)
      rw [z, h5] at hD; cases hD
    have nDR : D ≠ R := (ne_of_none h3R hD).symm
    refine i_list (SqL.of h4) ?_
    refine for_it (walk_list (xs := ns.map V.int)) (fun j σ H' => ∃ u6, σ = [some (.ref x), some (.ref r), some (.ref PD), some (.ref R), some (.int u.1), some (.int u.2), u6, none, none] ∧ G none H H' ∧ H' D = some (.lst (ns.map V.int)) ∧ H' R = some (.lst (ls.map V.ref)) ∧ H' PD = some (.lst (qs.map V.ref)) ∧ Dicts H' qs ds ∧ PLs K H' ls (fun p => growL (W.take i) ds p ++ if (p : Int) ∈ ns.take j then [u] else []))
      ⟨_, rfl, g3.trans g4, h4, h4R, g4.all _ _ h3P, dic3.keep fun q kvs e => g4.all _ _ e, by simpa using pls3.n g4⟩ (fun j σ H' _ ⟨_, _, _, q, _⟩ => SqL.of q) ?_ ?_
    · rintro j v σ _ H5 hj ⟨w6, rfl, g5, h5D, h5R, h5P, dic5, pls5⟩ ⟨rfl, hv⟩
      rw [List.getElem?_map] at hv
      obtain ⟨z, hz, rfl⟩ := Option.map_eq_some_iff.mp hv
      have tkj : ns.take (j + 1) = ns.take j ++ [z] := by rw [List.take_add_one, hz]; rfl
      have gz := (mem z).mp (List.mem_of_getElem? hz)
      have zr := rec.rng dy ym z gz.1
      have ez : ((z.toNat : Nat) : Int) = z := by omega
      obtain ⟨l, hl⟩ : ∃ l, ls[z.toNat]? = some l := ⟨_, List.getElem?_eq_getElem (by omega)⟩
      have lm' := List.mem_of_getElem? hl
      obtain ⟨bs5, h5l, hxs⟩ := pls5 _ _ hl
      walk_at "ws"
      refine r_ixL (SqL.of h5R) (v := .ref l) (at_of (j := z.toNat) (by omega) (by rw [List.getElem?_map, hl]; rfl)) ?_
      refine ⟨.inl ⟨rfl, _, SqL.of h5l⟩, ?_⟩
      walk_at "ws"
      refine ⟨sz (by simp), fun tt H6 htt g6 h6 => ?_⟩
      have h6l := (g6 none).all _ _ h5l
      walk_at "ws"
      have lxs : (bs5.map V.ref).length ≤ 200 := by
        rw [List.length_map, hxs.1, List.length_append]
        have q1 : (growL (W.take i) ds (z.toNat : Nat)).length ≤ 49 := by
          unfold growL
          have a1 := List.length_filter_le (fun u => decide (Grow ds u.1.toNat u.2.toNat (z.toNat : Nat))) (W.take i)
          rw [List.length_take] at a1
          omega
        revert q1
        generalize (growL (W.take i) ds (z.toNat : Nat)).length = gl
        intro q1
        split <;> simp <;> omega
      refine r_app h6l (by omega) ?_
      walk_at "ws"
      have nRl : R ≠ l := fun e => nR (e ▸ lm')
      have nPl : PD ≠ l := (nP l lm').symm
      refine ⟨_, rfl, (g5.trans (g6 none)).mut (hl0 l lm') (fun _ e => nomatch e), by rw [upd_ne (nDl l lm')]; exact (g6 none).all _ _ h5D, by rw [upd_ne nRl]; exact (g6 none).all _ _ h5R, by rw [upd_ne nPl]; exact (g6 none).all _ _ h5P, (dic5.keep fun q kvs e => (g6 none).all _ _ e).keep fun q kvs e => by rw [upd_ne (ne_of e h6l (by intro z; cases z))]; exact e, ?_⟩
      have nz : z ∉ ns.take j := fun mm => by
        obtain ⟨j', hj', e⟩ := List.getElem_of_mem mm
        rw [List.length_take] at hj'
        rw [List.getElem_take] at e
        have e2 := (List.getElem?_eq_some_iff.mp hz)
        have := nd_at nn (by omega) e2.1 (e.trans e2.2.symm)
        omega
      have q := PLs.put (pls5.n (g6 none)) nd hl h6l h6
      refine fun p l' e => ?_
      obtain ⟨ys, a1, a2⟩ := q p l' e
      refine ⟨ys, a1, ?_⟩
      have ef : ((growL (W.take i) ds p ++ if (p : Int) ∈ ns.take j then [u] else []) ++ if p = z.toNat then [u] else []) = growL (W.take i) ds p ++ if (p : Int) ∈ ns.take (j + 1) then [u] else [] := by
        rw [tkj]
        by_cases c : p = z.toNat
        · have c1 : (p : Int) = z := by omega
          rw [if_pos c, c1, if_neg nz, if_pos (by simp), List.append_nil]
        · have c1 : ¬ (p : Int) = z := by omega
          rw [if_neg c, List.append_nil]
          by_cases c2 : (p : Int) ∈ ns.take j
          · rw [if_pos c2, if_pos (List.mem_append_left _ c2)]
          · rw [if_neg c2, if_neg (by simp [c2, c1])]
      dsimp only at a2 ⊢
      rw [ef] at a2
      exact a2
    · rintro σ H5 ⟨w6, rfl, g5, h5D, h5R, h5P, dic5, pls5⟩
      rw [List.length_map, List.take_length] at pls5
      refine ⟨_, _, _, rfl, g5, h5R, h5P, dic5, fun p l e => ?_⟩
      obtain ⟨xs, a1, a2⟩ := pls5 p l e
      refine ⟨xs, a1, ?_⟩
      have ef : growL (W.take (i + 1)) ds p = growL (W.take i) ds p ++ if (p : Int) ∈ ns then [u] else [] := by
        rw [tk, growL_snoc]
        congr 1
        have : Grow ds u.1.toNat u.2.toNat p ↔ (p : Int) ∈ ns := by
          rw [mem]
          unfold Grow GrowD
          rw [dAt_of hdy, dAt_of hdx]
        by_cases c : (p : Int) ∈ ns
        · rw [if_pos c, if_pos (this.mpr c)]
        · rw [if_neg c, if_neg fun z => c (this.mp z)]
      dsimp only at a2 ⊢
      rw [ef]
      exact a2
  · rintro σ H3 ⟨u4, u5, u6, rfl, g3, h3R, h3P, dic3, pls3⟩
    rw [lv, List.take_length] at pls3
    walk_at "ws"
    exact k R ls H3 hR0 g3 h3R ll hl0 pls3

end
end Mine
/-! ## K22 -/


namespace Mine
section
variable {P : Program} {w : World} {K : PySem.W.Frag} {mg : Str → Option Value} {base : Heap} {a : Ads}

def holdN (ds : List (List Int)) (p : Nat) (i : Nat) : List Int := ((List.range i).filter fun (x : Nat) => decide ((p : Int) ∈ dAt ds x)).map fun (x : Nat) => (x : Int)
abbrev hold (ds : List (List Int)) (p : Nat) : List Int := holdN ds p ds.length
theorem holdN_succ (ds : List (List Int)) (p i : Nat) : holdN ds p (i + 1) = holdN ds p i ++ if (p : Int) ∈ dAt ds i then [(i : Int)] else [] := by
  unfold holdN
  rw [List.range_succ, List.filter_append, List.map_append]
  congr 1
  by_cases c : (p : Int) ∈ dAt ds i
  · have e : ([i] : List Nat).filter (fun (x : Nat) => decide ((p : Int) ∈ dAt ds x)) = [i] := List.filter_cons_of_pos (p := fun (x : Nat) => decide ((p : Int) ∈ dAt ds x)) (decide_eq_true c)
    rw [if_pos c, e]; rfl
  · have e : ([i] : List Nat).filter (fun (x : Nat) => decide ((p : Int) ∈ dAt ds x)) = [] := List.filter_cons_of_neg (p := fun (x : Nat) => decide ((p : Int) ∈ dAt ds x)) (fun h => c (of_decide_eq_true h))
    rw [if_neg c, e]; rfl
theorem holdN_len (ds : List (List Int)) (p i : Nat) : (holdN ds p i).length ≤ i := by
  unfold holdN
  rw [List.length_map]
  have := List.length_filter_le (fun (x : Nat) => decide ((p : Int) ∈ dAt ds x)) (List.range i)
  rw [List.length_range] at this
  exact this
theorem hold_mem {ds : List (List Int)} {p : Nat} {z : Int} : z ∈ hold ds p ↔ ∃ x : Nat, z = (x : Int) ∧ x < ds.length ∧ (p : Int) ∈ dAt ds x := by
  unfold hold holdN
  rw [List.mem_map]
  constructor
  · rintro ⟨x, hx, rfl⟩
    obtain ⟨h1, h2⟩ := List.mem_filter.mp hx
    exact ⟨x, rfl, List.mem_range.mp h1, of_decide_eq_true h2⟩
  · rintro ⟨x, rfl, h1, h2⟩
    exact ⟨x, List.mem_filter.mpr ⟨List.mem_range.mpr h1, decide_eq_true h2⟩, rfl⟩
theorem hold_nd (ds : List (List Int)) (p : Nat) : (hold ds p).Nodup := by
  unfold hold holdN
  refine List.pairwise_map.mpr ?_
  refine List.Pairwise.imp (fun {a b} h e => ?_) ((List.pairwise_lt_range (n := ds.length)).sublist List.filter_sublist)
  omega
/-- lists of ints at these places -/
def ILs (H : Hp) (ls : List Addr) (f : Nat → List Int) : Prop := ∀ (p : Nat) (l : Addr), ls[p]? = some l → H l = some (.lst ((f p).map V.int))
theorem ILs.n {H H' : Hp} {ls : List Addr} {f : Nat → List Int} (h : ILs H ls f) (g : G none H H') : ILs H' ls f := fun p l e => g.all _ _ (h p l e)
theorem ILs.put {H : Hp} {ls : List Addr} {f : Nat → List Int} (h : ILs H ls f) (nd : ls.Nodup) {p : Nat} {l : Addr} (hl : ls[p]? = some l) (z : Int) : ILs (upd H l (.lst ((f p).map V.int ++ [.int z]))) ls (fun q => f q ++ if q = p then [z] else []) := fun q l' e => by
  by_cases c : q = p
  · subst c
    rw [hl] at e
    cases e
    rw [upd_same]
    dsimp only
    rw [if_pos rfl, List.map_append]; rfl
  · have n : l' ≠ l := fun z => c (by subst z; exact nd_ixA nd e hl)
    rw [upd_ne n]
    dsimp only
    rw [if_neg c, List.append_nil]
    exact h q l' e
def sp_holders_by_put (K : PySem.W.Frag) (CR : Addr) : Sp := fun vs H Q _ => ∃ (r : Addr) (ws : List Int) (ds : List (List Int)), vs = [.ref r] ∧ RecAt K CR H r ws ds ∧ IsRec ws ds ∧
  ∀ (R : Addr) (ls : List Addr) H', H R = none → G none H H' → H' R = some (.lst (ls.map V.ref)) → ls.length = ws.length → ILs H' ls (fun p => hold ds p) → Q (.ref R) H'
theorem ok_holders_by_put (T : Txt K mg a) : FnOk P w K mg base CX0 1 a.f_holders_by_put a.d_holders_by_put P_holders_by_put (sp_holders_by_put K a.c_Record) := by
  refine T.F_holders_by_put.ok sc_holders_by_put (fun vs H Q E h => by obtain ⟨r, ws, ds, rfl, _⟩ := h; rfl) (fun cdv A outer s H vs Q E hr h => ?_)
  obtain ⟨r, ws, ds, rfl, ⟨dr, wp, dp, hrr, hwp, bs, hbs, lb, hb⟩, rec, k⟩ := h
  have m7 := rec.m7
  have p30 := rec.p30
  refine ⟨_, (pss_cons (ps_setLc (i := 1) (own := [("_", 5)]) (g := (gName 5)) (tt := tYes)  rfl sc_holders_by_put.nd rfl rfl (sw_true rfl rfl rfl (by decide +kernel)) (pi_tup (pe_fld (pv 0) rfl)) (blkOk_by (N := N_holders_by_put) (sc := defScope s_holders_by_put) (by decide +kernel)) (fun _ _ _ _ _ => (pg_name (i := 5) sc_holders_by_put.nd rfl (by first | exact Or.inl rfl | exact Or.inr rfl))) (fun _ _ _ _ _ => pts_nil) (fun _ _ _ _ _ => (pe_lstN pa_nil)))
  (pss_cons (ps_for PassesOwn.never rfl (pi_enumT (by rfl) T.n_enumerate (pa_cons (pe_fld (pv 0) rfl) pa_nil)) (pg_tup rfl (pgs_cons (pg_name (i := 2) sc_holders_by_put.nd rfl (Or.inl rfl)) (pgs_cons (pg_name (i := 3) sc_holders_by_put.nd rfl (Or.inl rfl)) pgs_nil)))
    (pss_one (ps_for PassesOwn.never rfl (pi_tup (pv 3)) (pg_name (i := 4) sc_holders_by_put.nd rfl (Or.inl rfl))
    (pss_one (ps_expr (pe_bm PySem.F.plainAttrs_list PySem.F.slot_list_append PySem.F.type_list_append mt_append (pe_ix ix_list (pv 1) (pv 4) (fun _ _ => rfl)) (pa_cons (pv 2) pa_nil)))))))
  (pss_one (ps_ret (pv 1))))), ?_⟩
  walk_at "ws"
  refine r_fld hrr T.cl_Record T.na_Record_writers (rf_w _ _) ?_
  refine i_tup hwp ?_
  intro R hR
  refine lc_it (walk_tup (xs := ws.map V.int)) (fun i H' => ∃ ls : List Addr, G none H H' ∧ H' R = some (.lst (ls.map V.ref)) ∧ ls.length = i ∧ ls.Nodup ∧ R ∉ ls ∧ ∀ l ∈ ls, H l = none ∧ H' l = some (.lst [])) ⟨[], (G.refl).mut hR (fun _ e => nomatch e), upd_same, rfl, List.nodup_nil, (fun h => nomatch h), (fun _ h => nomatch h)⟩ (fun i H' _ ⟨_, q, _⟩ => sqT_t q.tups hwp) ?_ ?_
  · rintro i v _ H2 hi ⟨ls, g2, h2, ll, nd, nR, hls⟩ ⟨rfl, hv⟩
    rw [List.length_map] at hi
    walk_at "ws"
    refine ⟨rfl, ?_⟩
    walk_at "ws"
    refine ⟨sz (by simp), fun l H3 hl g3 h3 => ?_⟩
    have nl : l ≠ R := (ne_of_none h2 hl).symm
    have h3R := (g3 none).all _ _ h2
    refine ⟨ls.map V.ref, h3R, Nat.lt_of_le_of_lt (by rw [List.length_map]; omega : (ls.map V.ref).length ≤ 100000) (by decide), ls ++ [l], (g2.trans (g3 none)).mut hR (fun _ e => nomatch e), by rw [upd_same, List.map_append]; rfl, by rw [List.length_append, ll]; rfl, ?_, ?_, fun l' hl' => ?_⟩
    · refine List.nodup_append.mpr ⟨nd, by simp, fun a ha b hb e => ?_⟩
      have eb : b = l := by simpa using hb
      have := (hls a ha).2
      rw [e, eb, hl] at this; cases this
    · intro h
      rcases List.mem_append.mp h with h | h
      · exact nR h
      · exact nl (by simpa using h : R = l).symm
    · rcases List.mem_append.mp hl' with h | h
      · have n' : l' ≠ R := fun z => nR (z ▸ h)
        exact ⟨(hls l' h).1, by rw [upd_ne n']; exact (g3 none).all _ _ (hls l' h).2⟩
      · have e : l' = l := by simpa using h
        subst e
        exact ⟨new_bk g2 hl, by rw [upd_ne nl]; exact h3⟩
  rintro H2 ⟨ls, g2, h2R, ll, nd, nR, hls⟩
  rw [List.length_map] at ll
  have ils0 : ILs H2 ls (fun p => holdN ds p 0) := fun p l e => (hls l (List.mem_of_getElem? e)).2
  have hl0 : ∀ l ∈ ls, H l = none := fun l hl => (hls l hl).1
  clear hls
  walk_at "ws"
  refine r_fld (g2.all _ _ hrr) T.cl_Record T.na_Record_diaries (rf_d _ _) ?_
  refine i_enum (sqT_t g2.tups hbs) ?_
  refine for_it (walk_enumT (xs := bs.map V.ref)) (fun i σ H' => ∃ u2 u3 u4, σ = [some (.ref r), some (.ref R), u2, u3, u4, none] ∧ G none H H' ∧ H' R = some (.lst (ls.map V.ref)) ∧ ILs H' ls (fun p => holdN ds p i)) ⟨_, _, _, rfl, g2, h2R, ils0⟩ (fun i σ H' _ ⟨_, _, _, _, q, _⟩ => sqT_t q.tups hbs) ?_ ?_
  · rintro i v σ H3 H4 hi ⟨u2, u3, u4, rfl, g3, h3R, ils3⟩ ⟨t, y, z, rfl, ht, rfl, ey, ez⟩
    cases Option.some.inj ey
    rw [List.length_map] at hi
    have g4 : G none H3 (upd H3 t (.tup [.int (i : Nat), z])) := G.alloc ht
    refine ⟨t, _, rfl, SqT.of upd_same, rfl, ?_⟩
    refine ⟨_, _, rfl, ?_⟩
    walk_at "ws"
    refine ⟨_, _, rfl, ?_⟩
    walk_at "ws"
    refine ⟨rfl, ?_⟩
    generalize upd H3 t (.tup [.int (i : Nat), z]) = H4 at g4 ⊢
    have g04 := g3.trans g4
    obtain ⟨b, d, rfl, hbi, hdi, hf⟩ := Dia.at_ (p := dp) lb hb ez
    have dm := List.mem_of_getElem? hdi
    have nd_d := rec.nd d dm
    have hd4 : SqT K H4 b (d.map V.int) := (hf.n g04).sq
    walk_at "ws"
    refine i_tup hd4 ?_
    refine for_it (walk_tup (xs := d.map V.int)) (fun j σ H' => ∃ u4, σ = [some (.ref r), some (.ref R), some (.int (i : Nat)), some (.ref b), u4, none] ∧ Ts H4 H' ∧ G none H H' ∧ H' R = some (.lst (ls.map V.ref)) ∧ ILs H' ls (fun p => holdN ds p i ++ if (p : Int) ∈ d.take j then [(i : Int)] else [])) ⟨_, rfl, (fun _ _ h => h), g04, g4.all _ _ h3R, by simpa using ils3.n g4⟩ (fun j σ H' _ ⟨_, _, q, _⟩ => sqT_t q hd4) ?_ ?_
    · rintro j v σ _ H5 hj ⟨w4, rfl, g5, g05, h5R, ils5⟩ ⟨rfl, hv⟩
      rw [List.getElem?_map] at hv
      obtain ⟨z, hz, rfl⟩ := Option.map_eq_some_iff.mp hv
      have tkj : d.take (j + 1) = d.take j ++ [z] := by rw [List.take_add_one, hz]; rfl
      have zr := rec.rng d dm z (List.mem_of_getElem? hz)
      obtain ⟨l, hl⟩ : ∃ l, ls[z.toNat]? = some l := ⟨_, List.getElem?_eq_getElem (by omega)⟩
      have lm' := List.mem_of_getElem? hl
      have h5l := ils5 _ _ hl
      walk_at "ws"
      refine r_ixL (SqL.of h5R) (v := .ref l) (at_of (j := z.toNat) (by omega) (by rw [List.getElem?_map, hl]; rfl)) ?_
      refine ⟨.inl ⟨rfl, _, SqL.of h5l⟩, ?_⟩
      walk_at "ws"
      have lh := holdN_len ds z.toNat i
      have nz : z ∉ d.take j := fun mm => by
        obtain ⟨j', hj', e⟩ := List.getElem_of_mem mm
        rw [List.length_take] at hj'
        rw [List.getElem_take] at e
        have e2 := (List.getElem?_eq_some_iff.mp hz)
        have := nd_at nd_d (by omega) e2.1 (e.trans e2.2.symm)
        omega
      have ezz : ((z.toNat : Nat) : Int) = z := by omega
      have ex : (holdN ds z.toNat i ++ if ((z.toNat : Nat) : Int) ∈ d.take j then [(i : Int)] else []) = holdN ds z.toNat i := by rw [ezz, if_neg nz, List.append_nil]
      have h5l : H5 l = some (.lst ((holdN ds z.toNat i).map V.int)) := by
        have q : H5 l = some (.lst ((holdN ds z.toNat i ++ if ((z.toNat : Nat) : Int) ∈ d.take j then [(i : Int)] else []).map V.int)) := h5l
        rw [ex] at q; exact q
      have ilsP : ILs (upd H5 l (.lst ((holdN ds z.toNat i).map V.int ++ [.int (i : Nat)]))) ls (fun q => (holdN ds q i ++ if (q : Int) ∈ d.take j then [(i : Int)] else []) ++ if q = z.toNat then [(i : Int)] else []) := by
        have q : ILs (upd H5 l (.lst ((holdN ds z.toNat i ++ if ((z.toNat : Nat) : Int) ∈ d.take j then [(i : Int)] else []).map V.int ++ [.int (i : Nat)]))) ls (fun q => (holdN ds q i ++ if (q : Int) ∈ d.take j then [(i : Int)] else []) ++ if q = z.toNat then [(i : Int)] else []) := ILs.put ils5 nd hl (i : Int)
        rw [ex] at q; exact q
      refine r_app h5l (by rw [List.length_map]; omega) ?_
      walk_at "ws"
      have nRl : R ≠ l := fun e => nR (e ▸ lm')
      refine ⟨_, rfl, ?_, g05.mut (hl0 l lm') (fun _ e => nomatch e), by rw [upd_ne nRl]; exact h5R, fun p l' e => ?_⟩
      · exact g5.trans (Ts.updl h5l)
      · have ef : ((holdN ds p i ++ if (p : Int) ∈ d.take j then [(i : Int)] else []) ++ if p = z.toNat then [(i : Int)] else []) = holdN ds p i ++ if (p : Int) ∈ d.take (j + 1) then [(i : Int)] else [] := by
          rw [tkj]
          by_cases c : p = z.toNat
          · have c1 : (p : Int) = z := by omega
            rw [if_pos c, c1, if_neg nz, if_pos (by simp), List.append_nil]
          · have c1 : ¬ (p : Int) = z := by omega
            rw [if_neg c, List.append_nil]
            by_cases c2 : (p : Int) ∈ d.take j
            · rw [if_pos c2, if_pos (List.mem_append_left _ c2)]
            · rw [if_neg c2, if_neg (by simp [c2, c1])]
        have q := ilsP p l' e
        exact q.trans (congrArg (fun w : List Int => some (HO.lst (w.map V.int))) ef)
    · rintro σ H5 ⟨w4, rfl, g5, g05, h5R, ils5⟩
      rw [List.length_map, List.take_length] at ils5
      refine ⟨_, _, _, rfl, g05, h5R, fun p l e => ?_⟩
      have q := ils5 p l e
      dsimp only at q ⊢
      rw [q, holdN_succ, dAt_of hdi]
  · rintro σ H3 ⟨u2, u3, u4, rfl, g3, h3R, ils3⟩
    rw [List.length_map, lb] at ils3
    walk_at "ws"
    exact k R ls H3 hR g3 h3R ll ils3

end
end Mine
/-! ## K23 -/


namespace Mine
section
variable {P : Program} {w : World} {K : PySem.W.Frag} {mg : Str → Option Value} {base : Heap} {a : Ads}

/-! ### a bar -/
def sp_check_machines (K : PySem.W.Frag) (C : Addr) : Sp := fun vs H Q _ => ∃ (x : Addr) (ws : List Int) (ds : List (List Int)), vs = [.int (ds.length : Nat), .ref x] ∧ RecAt K C H x ws ds ∧ Q .non H
theorem ok_check_machines (T : Txt K mg a) : FnOk P w K mg base CX0 4 a.f_check_machines a.d_check_machines P_check_machines (sp_check_machines K a.c_Record) := by
  refine T.F_check_machines.ok sc_check_machines (fun vs H Q E h => by obtain ⟨x, ws, ds, rfl, _⟩ := h; rfl) (fun cdv A outer s H vs Q E hr h => ?_)
  obtain ⟨x, ws, ds, rfl, ⟨dx, wp, dp, hxi, hw, bs, hbs, lb, hb⟩, k⟩ := h
  refine ⟨_, (pss_one (ps_if (pt_cmpR op_ne (pv 0) (pe_callB call_len_seq (by rfl) T.n_len (by decide +kernel) (pa_cons (pe_fld (pv 1) rfl) pa_nil)) (nomark _))
    pss_never
    pss_nil)), ?_⟩
  walk_at "ws"
  refine r_fld hxi T.cl_Record T.na_Record_diaries (rf_d _ _) ?_
  refine ⟨dp, _, rfl, .inr hbs, ?_⟩
  walk_at "ws"
  rw [List.length_map, lb]
  refine w_ite (fun e => ?_) (fun e => ?_)
  · exact absurd e (by simp)
  · walk_at "ws"
    exact k
def sp_growing (K : PySem.W.Frag) (CW CR : Addr) : Sp := fun vs H Q _ => ∃ (x r : Addr) (m : Int) (W : List (Int × Int)) (ws : List Int) (ds : List (List Int)) (p : Nat), vs = [.ref x, .ref r, .int p] ∧ WebAt K CW H x m W ∧ IsWeb m W ∧ RecAt K CR H r ws ds ∧ IsRec ws ds ∧ ds.length = m.toNat ∧ p < ws.length ∧
  ∀ (l : Addr) (xs : List V) H', G none H H' → H' l = some (.lst xs) → DpAll K H' xs ((growL W ds p).map dP) → Q (.ref l) H'
theorem ok_growing (T : Txt K mg a) : FnOk P w K mg base CX0 5 a.f_growing a.d_growing P_growing (sp_growing K a.c_Web a.c_Record) := by
  refine T.F_growing.ok sc_growing (fun vs H Q E h => by obtain ⟨x, r, m, W, ws, ds, p, rfl, _⟩ := h; rfl) (fun cdv A outer s H vs Q E hr h => ?_)
  obtain ⟨x, r, m, W, ws, ds, p, rfl, hwb, web, hrr, rec, lm, hp, k⟩ := h
  have m1 := web.lo
  have G_check_machines : FnOk P w K mg base CX0 4 a.f_check_machines a.d_check_machines P_check_machines (sp_check_machines K a.c_Record) := ok_check_machines T
  have G_check_put : FnOk P w K mg base CX0 4 a.f_check_put a.d_check_put P_check_put (sp_check_put K a.c_Record) := ok_check_put T
  have G_wires_by_put : FnOk P w K mg base CX0 2 a.f_wires_by_put a.d_wires_by_put P_wires_by_put (sp_wires_by_put K a.c_Web a.c_Record) := ok_wires_by_put T
  refine ⟨_, (pss_cons (ps_expr (pe_call (G_check_machines) (hr.mono (by omega)) rfl T.m_check_machines T.F_check_machines.kp T.b_check_machines .nil pass0 (pa_cons (pe_fld (pv 0) rfl) (pa_cons (pv 1) pa_nil))))
  (pss_cons (ps_expr (pe_call (G_check_put) (hr.mono (by omega)) rfl T.m_check_put T.F_check_put.kp T.b_check_put .nil pass0 (pa_cons (pv 1) (pa_cons (pv 2) pa_nil))))
  (pss_one (ps_ret (pe_ix ix_list (pe_call (G_wires_by_put) (hr.mono (by omega)) rfl T.m_wires_by_put T.F_wires_by_put.kp T.b_wires_by_put .nil pass0 (pa_cons (pv 0) (pa_cons (pv 1) pa_nil))) (pv 2) (fun _ _ => rfl)))))), ?_⟩
  walk_at "ws"
  obtain ⟨dx, wa, hx, hwa⟩ := id hwb
  refine r_fld hx T.cl_Web T.na_Web_machines (wf_m _ _) ?_
  walk_at "ws"
  refine ⟨r, ws, ds, by rw [show m = (ds.length : Int) from by omega]; rfl, hrr, ?_⟩
  walk_at "ws"
  refine ⟨r, ws, ds, p, rfl, hrr, hp, ?_⟩
  walk_at "ws"
  refine ⟨x, r, m, W, ws, ds, rfl, hwb, web, hrr, rec, lm, fun R ls H1 hR g1 h1 ll _ pls => ?_⟩
  walk_at "ws"
  obtain ⟨l, hl⟩ : ∃ l, ls[p]? = some l := ⟨_, List.getElem?_eq_getElem (by omega)⟩
  obtain ⟨xs, a1, a2⟩ := pls p l hl
  refine r_ixL (SqL.of h1) (v := .ref l) (at_of (j := p) rfl (by rw [List.getElem?_map, hl]; rfl)) ?_
  exact k l _ H1 g1 a1 (tupAll_dp (p := l) a2)

end
end Mine
/-! ## K24 -/


namespace Mine
section
variable {P : Program} {w : World} {K : PySem.W.Frag} {mg : Str → Option Value} {base : Heap} {a : Ads}

def FullAt (W : List (Int × Int)) (ws : List Int) (ds : List (List Int)) (p : Nat) : Prop := ∀ w, ws[p]? = some w → ∀ z ∈ hold ds p, Reach (growL W ds p) w z
theorem dAt_lt {ds : List (List Int)} {x : Nat} {p : Int} (h : p ∈ dAt ds x) : x < ds.length := by
  rcases Nat.lt_or_ge x ds.length with c | c
  · exact c
  · have e : dAt ds x = [] := by
      unfold dAt
      rw [List.getD_eq_getElem?_getD, List.getElem?_eq_none c]; rfl
    rw [e] at h; nomatch h
theorem full_iff {W : List (Int × Int)} {ws : List Int} {ds : List (List Int)} : Full W ws ds ↔ ∀ p, FullAt W ws ds p := by
  constructor
  · intro f p w hw z hz
    obtain ⟨x, rfl, hx, hp⟩ := hold_mem.mp hz
    exact f p w x hw hp
  · intro f p w x hw hp
    exact f p w hw x (hold_mem.mpr ⟨x, rfl, dAt_lt hp, hp⟩)
theorem reach_hold {W : List (Int × Int)} {ds : List (List Int)} {p : Nat} (hW : ∀ u ∈ W, 0 ≤ u.2 ∧ u.2 < (ds.length : Int)) {w z : Int} (h : w ∈ hold ds p) (r : Reach (growL W ds p) w z) : z ∈ hold ds p := by
  induction r with
  | refl => exact h
  | @step y z _ e _ =>
    obtain ⟨eW, eg⟩ := List.mem_filter.mp e
    have eg : Grow ds y.toNat z.toNat p := of_decide_eq_true eg
    have q : 0 ≤ z ∧ z < (ds.length : Int) := hW _ eW
    exact hold_mem.mpr ⟨z.toNat, by omega, by omega, eg.2.1⟩
theorem lens_sub {ks hs : List Int} (nk : ks.Nodup) (nh : hs.Nodup) (sub : ∀ z ∈ ks, z ∈ hs) : hs.length ≤ ks.length ↔ ∀ z ∈ hs, z ∈ ks := by
  constructor
  · intro h z hz
    rcases Classical.em (z ∈ ks) with c | c
    · exact c
    · have := List.Nodup.length_le_of_subset (l₁ := z :: ks) (l₂ := hs) (List.nodup_cons.mpr ⟨c, nk⟩) fun y hy => by
        rcases List.mem_cons.mp hy with e | e
        · rw [e]; exact hz
        · exact sub y e
      rw [List.length_cons] at this
      omega
  · intro h
    exact List.Nodup.length_le_of_subset nh h
theorem growL_bd {m : Int} {W : List (Int × Int)} (web : IsWeb m W) (ds : List (List Int)) (p : Int) : ∀ u ∈ growL W ds p, (0 ≤ u.1 ∧ u.1 < m) ∧ (0 ≤ u.2 ∧ u.2 < m) := fun u hu => by
  have := web.mem u (List.mem_filter.mp hu).1
  exact ⟨this.1, this.2.1⟩
theorem growL_len (W : List (Int × Int)) (ds : List (List Int)) (p : Int) : (growL W ds p).length ≤ W.length := List.length_filter_le _ _
theorem own_hold {ws : List Int} {ds : List (List Int)} (rec : IsRec ws ds) {p : Nat} {w : Int} (hw : ws[p]? = some w) : w ∈ hold ds p := by
  have q := rec.wr w (List.mem_of_getElem? hw)
  obtain ⟨d, hd⟩ : ∃ d, ds[w.toNat]? = some d := ⟨_, List.getElem?_eq_getElem (by omega)⟩
  exact hold_mem.mpr ⟨w.toNat, by omega, by omega, by rw [dAt_of hd]; exact rec.own p w d hw hd⟩
theorem w_ienum {K : PySem.W.Frag} {ta : TA} {σ : L2.St} {H : Hp} {R : It → Hp → Prop} (q : ta σ H fun vs H1 => ∃ a xs, vs = [.ref a] ∧ SqL K H1 a xs ∧ R (Ite K a) H1) : iEnum K ta σ H R := q
def sp_bar (K : PySem.W.Frag) (CW CR : Addr) : Sp := fun vs H Q _ => ∃ (x r : Addr) (m : Int) (W : List (Int × Int)) (ws : List Int) (ds : List (List Int)), vs = [.ref x, .ref r] ∧ WebAt K CW H x m W ∧ IsWeb m W ∧ RecAt K CR H r ws ds ∧ IsRec ws ds ∧ ds.length = m.toNat ∧
  (Full W ws ds → ∀ H', G none H H' → Q .non H') ∧ (¬ Full W ws ds → ∀ (t t1 : Addr) (p : Nat) (w0 : Int) (ks : List Int) H', G none H H' → ws[p]? = some w0 → (∀ z, z ∈ ks ↔ Reach (growL W ds p) w0 z) → (∃ z ∈ hold ds p, z ∉ ks) → (∀ q, q < p → FullAt W ws ds q) → H' t = some (.tup [.int (p : Nat), .ref t1]) → SqT K H' t1 (((hold ds p).filter fun z => decide (z ∉ ks)).map V.int) → Q (.ref t) H')
theorem ok_bar (T : Txt K mg a) : FnOk P w K mg base CX0 5 a.f_bar a.d_bar P_bar (sp_bar K a.c_Web a.c_Record) := by
  refine T.F_bar.ok sc_bar (fun vs H Q E h => by obtain ⟨x, r, m, W, ws, ds, rfl, _⟩ := h; rfl) (fun cdv A outer s H vs Q E hr h => ?_)
  obtain ⟨x, r, m, W, ws, ds, rfl, hwb, web, hrr, rec, lm, kY, kN⟩ := h
  have m1 := web.lo
  have m7 := web.hi
  have lW : W.length ≤ 49 := isweb_len49 web
  have p30 := rec.p30
  have G_check_machines : FnOk P w K mg base CX0 4 a.f_check_machines a.d_check_machines P_check_machines (sp_check_machines K a.c_Record) := ok_check_machines T
  have G_wires_by_put : FnOk P w K mg base CX0 2 a.f_wires_by_put a.d_wires_by_put P_wires_by_put (sp_wires_by_put K a.c_Web a.c_Record) := ok_wires_by_put T
  have G_holders_by_put : FnOk P w K mg base CX0 1 a.f_holders_by_put a.d_holders_by_put P_holders_by_put (sp_holders_by_put K a.c_Record) := ok_holders_by_put T
  have G_ways_from : FnOk P w K mg base CX0 1 a.f_ways_from a.d_ways_from P_ways_from (sp_ways_from K) := ok_ways_from T
  refine ⟨_, (pss_cons (ps_expr (pe_call (G_check_machines) (hr.mono (by omega)) rfl T.m_check_machines T.F_check_machines.kp T.b_check_machines .nil pass0 (pa_cons (pe_fld (pv 0) rfl) (pa_cons (pv 1) pa_nil))))
  (pss_cons (ps_set (i := 2) sc_bar.nd rfl (Or.inl rfl) (pe_call (G_wires_by_put) (hr.mono (by omega)) rfl T.m_wires_by_put T.F_wires_by_put.kp T.b_wires_by_put .nil pass0 (pa_cons (pv 0) (pa_cons (pv 1) pa_nil))))
  (pss_cons (ps_for PassesOwn.never rfl (pi_enum (by rfl) T.n_enumerate (pa_cons (pe_call (G_holders_by_put) (hr.mono (by omega)) rfl T.m_holders_by_put T.F_holders_by_put.kp T.b_holders_by_put .nil pass0 (pa_cons (pv 1) pa_nil)) pa_nil)) (pg_tup rfl (pgs_cons (pg_name (i := 3) sc_bar.nd rfl (Or.inl rfl)) (pgs_cons (pg_name (i := 4) sc_bar.nd rfl (Or.inl rfl)) pgs_nil)))
    (pss_cons (ps_set (i := 5) sc_bar.nd rfl (Or.inr rfl) (pe_call (G_ways_from) (hr.mono (by omega)) rfl T.m_ways_from T.F_ways_from.kp T.b_ways_from .nil pass0 (pa_cons (pe_ix ix_tup (pe_fld (pv 1) rfl) (pv 3) (fun _ _ => rfl)) (pa_cons (pe_ix ix_list (pv 2) (pv 3) (fun _ _ => rfl)) pa_nil))))
  (pss_one (ps_if (pt_cmpR op_lt (pe_callB call_lenD (by rfl) T.n_len (by decide +kernel) (pa_cons (pv 5) pa_nil)) (pe_callB call_len_seq (by rfl) T.n_len (by decide +kernel) (pa_cons (pv 4) pa_nil)) (nomark _))
    (pss_one (ps_ret (pe_tupN (pa_cons (pv 3) (pa_cons (pe_callTy call_tupleN (by rfl) T.n_tuple (by decide +kernel) (pa_cons (pe_lc (own := [("machine", 6)]) (g := (gName 6)) rfl sc_bar.nd (pi_list (pv 4)) (blkOk_by (N := N_bar) (sc := defScope s_bar) (by decide +kernel)) (fun _ _ _ _ _ => (pg_name (i := 6) sc_bar.nd rfl (by first | exact Or.inl rfl | exact Or.inr rfl))) (fun _ _ _ _ _ => (pts_one (pt_cmp (pc_dnotin (hu_of hr) (pv 6) (pv 5))))) (fun _ _ _ _ _ => (pv 6))) pa_nil)) pa_nil)))))
    pss_nil))))
  (pss_one (ps_ret pe_non))))), ?_⟩
  walk_at "ws"
  obtain ⟨dx, wa, hx, hwa⟩ := id hwb
  refine r_fld hx T.cl_Web T.na_Web_machines (wf_m _ _) ?_
  walk_at "ws"
  refine ⟨r, ws, ds, by rw [show m = (ds.length : Int) from by omega]; rfl, hrr, ?_⟩
  walk_at "ws"
  refine ⟨x, r, m, W, ws, ds, rfl, hwb, web, hrr, rec, lm, fun R ls H1 hR g1 h1 ll _ pls => ?_⟩
  walk_at "ws"
  refine w_ienum ?_
  walk_at "ws"
  refine ⟨r, ws, ds, rfl, hrr.n g1, rec, fun R2 ls2 H2 hR2 g2 h2 ll2 ils => ?_⟩
  walk_at "ws"
  refine ⟨R2, _, rfl, SqL.of h2, ?_⟩
  have g02 := g1.trans g2
  have h2R := g2.all _ _ h1
  have pls2 := pls.n g2
  obtain ⟨dr, wp, dp, hrr2, hwp2, _⟩ := hrr.n g02
  refine for_it (walk_enum (xs := ls2.map V.ref)) (fun i σ H' => ∃ u3 u4 u5, σ = [some (.ref x), some (.ref r), some (.ref R), u3, u4, u5, none] ∧ G none H2 H' ∧ ∀ p, p < i → FullAt W ws ds p) ⟨_, _, _, rfl, G.refl, fun _ h => absurd h (Nat.not_lt_zero _)⟩ (fun i σ H' _ ⟨_, _, _, _, q, _⟩ => sqL_n q (SqL.of h2)) ?_ ?_
  · rintro i v σ H3 H4 hi ⟨u3, u4, u5, rfl, g3, full⟩ ⟨t, y, z, rfl, ht, rfl, ey, ez⟩
    cases Option.some.inj ey
    rw [List.length_map] at hi
    have g4 : G none H3 (upd H3 t (.tup [.int (i : Nat), z])) := G.alloc ht
    refine ⟨t, _, rfl, SqT.of upd_same, rfl, ?_⟩
    refine ⟨_, _, rfl, ?_⟩
    walk_at "ws"
    refine ⟨_, _, rfl, ?_⟩
    walk_at "ws"
    refine ⟨rfl, ?_⟩
    generalize upd H3 t (.tup [.int (i : Nat), z]) = H4 at g4 ⊢
    have g24 := g3.trans g4
    have ez : (ls2.map V.ref)[i]? = some z := ez
    rw [List.getElem?_map] at ez
    obtain ⟨l2, hl2, rfl⟩ := Option.map_eq_some_iff.mp ez
    obtain ⟨l, hl⟩ : ∃ l, ls[i]? = some l := ⟨_, List.getElem?_eq_getElem (by omega)⟩
    obtain ⟨w0, hw0⟩ : ∃ w0, ws[i]? = some w0 := ⟨_, List.getElem?_eq_getElem (by omega)⟩
    obtain ⟨bs2, a1, a2'⟩ := pls2.n g24 i l hl
    have a2 := tupAll_dp (K := K) (p := l) a2'
    generalize bs2.map V.ref = xs at a1 a2
    have hh := ils.n g24 i l2 hl2
    have w0r := rec.wr w0 (List.mem_of_getElem? hw0)
    walk_at "ws"
    refine r_fld (g24.all _ _ hrr2) T.cl_Record T.na_Record_writers (rf_w _ _) ?_
    walk_at "ws"
    refine r_ixT (sqT_t g24.tups hwp2) (v := .int w0) (at_of (j := i) rfl (by rw [List.getElem?_map, hw0]; rfl)) ?_
    walk_at "ws"
    refine r_ixL (SqL.of (g24.all _ _ h2R)) (v := .ref l) (at_of (j := i) rfl (by rw [List.getElem?_map, hl]; rfl)) ?_
    walk_at "ws"
    have gl := growL_len W ds (i : Nat)
    refine ⟨w0, m, l, xs, growL W ds (i : Nat), rfl, SqL.of a1, a2, growL_bd web ds _, by omega, by omega, by omega, fun f kvs ks H5 hf g5 h5 ek nk rk mem _ => ?_⟩
    walk_at "ws"
    refine ⟨f, kvs, rfl, h5, ?_⟩
    walk_at "ws"
    have hh5 := g5.all _ _ hh
    refine ⟨l2, _, rfl, .inl (SqL.of hh5), ?_⟩
    walk_at "ws"
    have lk : kvs.length = ks.length := by
      have := congrArg List.length ek.keys
      rw [List.length_map, List.length_map] at this
      exact this
    have hW : ∀ u ∈ W, 0 ≤ u.2 ∧ u.2 < (ds.length : Int) := fun u hu => by
      have := web.mem u hu
      omega
    have lens := lens_sub nk (hold_nd ds i) fun z hz => reach_hold hW (own_hold rec hw0) ((mem z).mp hz)
    rw [lk, List.length_map]
    refine w_ite (fun e => ?_) (fun e => ?_)
    · have e : ((ks.length : Nat) : Int) < ((hold ds i).length : Nat) := of_decide_eq_true e
      have nF : ¬ Full W ws ds := fun F => by
        have := lens.mpr fun z hz => (mem z).mpr (full_iff.mp F i w0 hw0 z hz)
        omega
      walk_at "ws"
      refine i_list (SqL.of hh5) ?_
      intro D hD
      refine lc_it (walk_list (xs := (hold ds i).map V.int)) (fun j H' => G none H5 H' ∧ H' D = some (.lst ((((hold ds i).take j).filter fun z => decide (z ∉ ks)).map V.int))) ⟨(G.refl).mut hD (fun _ e => nomatch e), upd_same⟩ (fun j H' _ q => sqL_n q.1 (SqL.of hh5)) ?_ ?_
      · rintro j v _ H6 hj ⟨g6, h6⟩ ⟨rfl, hv⟩
        rw [List.length_map] at hj
        have hl7 : (hold ds i).length ≤ ds.length := holdN_len ds i ds.length
        have m7' := rec.m7
        rw [List.getElem?_map] at hv
        obtain ⟨z, hz, rfl⟩ := Option.map_eq_some_iff.mp hv
        have tk : (hold ds i).take (j + 1) = (hold ds i).take j ++ [z] := by rw [List.take_add_one, hz]; rfl
        have lf : (((hold ds i).take j).filter fun z => decide (z ∉ ks)).length ≤ 7 := by
          have := List.length_filter_le (fun z => decide (z ∉ ks)) ((hold ds i).take j)
          rw [List.length_take] at this
          omega
        walk_at "ws"
        refine ⟨rfl, ?_⟩
        walk_at "ws"
        show tVar 6 _ _ _
        walk_at "ws"
        refine ⟨f, _, rfl, DGet.k (k := Sum.inl z) (g6.all _ _ h5), ?_⟩
        rw [← valV_any, kv_any ek.keys]
        refine ⟨_, rfl, ?_⟩
        refine w_ite (fun e => ?_) (fun e => ?_)
        · have e : z ∉ ks := by simpa using e
          walk_at "ws"
          refine ⟨_, h6, Nat.lt_of_le_of_lt (by rw [List.length_map]; omega) (by decide : 100 < sizeLine), g6.mut hD (fun _ e => nomatch e), ?_⟩
          rw [upd_same, tk, List.filter_append, List.filter_cons_of_pos (by simpa using e), List.map_append]; rfl
        · have e : z ∈ ks := by simpa using e
          refine ⟨g6, ?_⟩
          rw [h6, tk, List.filter_append, List.filter_cons_of_neg (by simpa using e), List.filter_nil, List.append_nil]
      rintro H6 ⟨g6, h6⟩
      rw [List.length_map, List.take_length] at h6
      walk_at "ws"
      refine ⟨D, _, rfl, .inl ⟨SqL.of h6, fun t1 H7 ht1 g7 h7 => ?_⟩⟩
      walk_at "ws"
      refine ⟨sz (by simp), fun t2 H8 ht2 g8 h8 => ?_⟩
      walk_at "ws"
      refine kN nF t2 t1 i w0 ks H8 (((((g02.trans g24).trans g5).trans g6).trans (g7 none)).trans (g8 none)) hw0 mem ?_ full h8 (sqT_t (g8 none).tups (SqT.of h7))
      rcases Classical.em (∃ z ∈ hold ds i, z ∉ ks) with q | q
      · exact q
      · have := lens.mpr fun z hz => Classical.byContradiction fun n => q ⟨z, hz, n⟩
        omega
    · have e : ¬ ((ks.length : Nat) : Int) < ((hold ds i).length : Nat) := of_decide_eq_false e
      walk_at "ws"
      refine ⟨_, _, _, rfl, g24.trans g5, fun p hp => ?_⟩
      rcases Nat.lt_or_ge p i with c | c
      · exact full p c
      · obtain rfl : p = i := by omega
        intro w hw z hz
        rw [hw0] at hw
        cases hw
        exact (mem z).mp (lens.mp (by omega) z hz)
  · rintro σ H3 ⟨u3, u4, u5, rfl, g3, full⟩
    rw [List.length_map] at full
    walk_at "ws"
    refine kY (full_iff.mpr fun p => ?_) _ (g02.trans g3)
    rcases Nat.lt_or_ge p ls2.length with c | c
    · exact full p c
    · intro w hw
      rw [List.getElem?_eq_none (by omega)] at hw
      nomatch hw
def sp_is_made (K : PySem.W.Frag) (CW CR : Addr) : Sp := fun vs H Q _ => ∃ (x r : Addr) (m : Int) (W : List (Int × Int)) (ws : List Int) (ds : List (List Int)), vs = [.ref x, .ref r] ∧ WebAt K CW H x m W ∧ IsWeb m W ∧ RecAt K CR H r ws ds ∧ IsRec ws ds ∧ ds.length = m.toNat ∧
  ∀ (b : Bool) H', G none H H' → (b = true ↔ Full W ws ds) → Q (.bl b) H'
theorem ok_is_made (T : Txt K mg a) : FnOk P w K mg base CX0 6 a.f_is_made a.d_is_made P_is_made (sp_is_made K a.c_Web a.c_Record) := by
  refine T.F_is_made.ok sc_is_made (fun vs H Q E h => by obtain ⟨x, r, m, W, ws, ds, rfl, _⟩ := h; rfl) (fun cdv A outer s H vs Q E hr h => ?_)
  obtain ⟨x, r, m, W, ws, ds, rfl, hwb, web, hrr, rec, lm, k⟩ := h
  have G_bar : FnOk P w K mg base CX0 5 a.f_bar a.d_bar P_bar (sp_bar K a.c_Web a.c_Record) := ok_bar T
  refine ⟨_, (pss_one (ps_ret (pe_cmp (pc_isN (pe_call (G_bar) (hr.mono (by omega)) rfl T.m_bar T.F_bar.kp T.b_bar .nil pass0 (pa_cons (pv 0) (pa_cons (pv 1) pa_nil))))))), ?_⟩
  walk_at "ws"
  refine ⟨x, r, m, W, ws, ds, rfl, hwb, web, hrr, rec, lm, fun F H1 g1 => ?_, fun F t t1 p w0 ks H1 g1 _ _ _ _ h1 _ => ?_⟩
  · walk_at "ws"
    exact k true H1 g1 (by simp [F])
  · walk_at "ws"
    exact k false H1 g1 (by simp [F])

end
end Mine
/-! ## K41 -/


namespace Mine
section
variable {P : Program} {w : World} {K : PySem.W.Frag} {mg : Str → Option Value} {base : Heap} {a : Ads}

/-! ### the law's own look at what grows -/
def sp__law_grow (K : PySem.W.Frag) : Sp := fun vs H Q _ => ∃ (wa dp : Addr) (p : Nat) (m : Int) (bs : List Addr) (W : List (Int × Int)) (ws : List Int) (ds : List (List Int)), vs = [.ref wa, .ref dp, .int (p : Nat)] ∧ SqT K H wa (bs.map V.ref) ∧ TupAll H bs W ∧ IsWeb m W ∧ Dia K H dp ds ∧ IsRec ws ds ∧ ds.length = m.toNat ∧
  ∀ (l : Addr) (xs : List V) H', H l = none → G none H H' → H' l = some (.lst xs) → DpAll K H' xs ((growL W ds p).map dP) → Q (.ref l) H'
theorem ok__law_grow (T : Txt K mg a) : FnOk P w K mg base CX0 1 a.f__law_grow a.d__law_grow P__law_grow (sp__law_grow K) := by
  refine T.F__law_grow.ok sc__law_grow (fun vs H Q E h => by obtain ⟨wa, dp, p, m, bs, W, ws, ds, rfl, _⟩ := h; rfl) (fun cdv A outer s H vs Q E hr h => ?_)
  obtain ⟨wa, dp, p, m, bs, W, ws, ds, rfl, hwa, tup, web, hdia, rec, lm, k⟩ := h
  have l49 := isweb_len49 web
  have lb := tup.1
  obtain ⟨bd, hbd, lbd, hfd⟩ := id hdia
  refine ⟨_, (pss_cons (ps_set (i := 3) sc__law_grow.nd rfl (Or.inl rfl) (pe_lstN pa_nil))
  (pss_cons (ps_for PassesOwn.never rfl (pi_tup (pv 0)) (pg_tup rfl (pgs_cons (pg_name (i := 4) sc__law_grow.nd rfl (Or.inl rfl)) (pgs_cons (pg_name (i := 5) sc__law_grow.nd rfl (Or.inl rfl)) pgs_nil)))
    (pss_one (ps_if (L2.PW.pt (pw_and (pt_cmpR op_in_seq (pv 2) (pe_ix ix_tup (pv 1) (pv 4) (fun _ _ => rfl)) (by rfl)) (pw_and1 (pt_cmpR op_in_seq (pv 2) (pe_ix ix_tup (pv 1) (pv 5) (fun _ _ => rfl)) (by rfl)))))
    (pss_cons (ps_set (i := 6) sc__law_grow.nd rfl (Or.inr rfl) (pe_slice sl_tupAN (pe_ix ix_tup (pv 1) (pv 5) (fun _ _ => rfl)) po_none (po_some (pe_bmT PySem.F.plainAttrs_tuple PySem.F.slot_tuple_index PySem.F.type_tuple_index mt_indexTI (pe_ix ix_tup (pv 1) (pv 5) (fun _ _ => rfl)) (pa_cons (pv 2) pa_nil)))))
  (pss_one (ps_if (pt_val (pe_callB (cr_all rfl) (by rfl) T.n_all (by decide +kernel) (pa_cons (pe_lc (own := [("_law_other", 7)]) (g := (gName 7)) (tt := tYes) rfl sc__law_grow.nd (pi_tup (pe_slice sl_tupAN (pe_ix ix_tup (pv 1) (pv 4) (fun _ _ => rfl)) po_none (po_some (pe_bmT PySem.F.plainAttrs_tuple PySem.F.slot_tuple_index PySem.F.type_tuple_index mt_indexTI (pe_ix ix_tup (pv 1) (pv 4) (fun _ _ => rfl)) (pa_cons (pv 2) pa_nil))))) (blkOk_by (N := N__law_grow) (sc := defScope s__law_grow) (by decide +kernel)) (fun _ _ _ _ _ => (pg_name (i := 7) sc__law_grow.nd rfl (by first | exact Or.inl rfl | exact Or.inr rfl))) (fun _ _ _ _ _ => pts_nil) (fun _ _ _ _ _ => (pe_cmpR (k_op_in_seq K) (pv 7) (pv 6) (by rfl)))) pa_nil)))
    (pss_one (ps_expr (pe_bm PySem.F.plainAttrs_list PySem.F.slot_list_append PySem.F.type_list_append mt_append (pv 3) (pa_cons (pe_tupN (pa_cons (pv 4) (pa_cons (pv 5) pa_nil))) pa_nil))))
    pss_nil)))
    pss_nil)))
  (pss_one (ps_ret (pv 3))))), ?_⟩
  walk_at "ws"
  refine ⟨sz (by simp), fun R H1 hR g1 h1 => ?_⟩
  walk_at "ws"
  refine i_tup (sqT_t (g1 none).tups hwa) ?_
  refine for_it (walk_tup (xs := bs.map V.ref)) (fun i σ H' => ∃ (xs : List V) (u4 u5 u6 : Option V), σ = [some (.ref wa), some (.ref dp), some (.int (p : Nat)), some (.ref R), u4, u5, u6, none] ∧ G none H H' ∧ H' R = some (.lst xs) ∧ DpAll K H' xs ((growL (W.take i) ds p).map dP)) ⟨[], _, _, _, rfl, g1 none, h1, .nil⟩ (fun i σ H' _ ⟨_, _, _, _, _, q, _⟩ => sqT_t q.tups hwa) ?_ ?_
  · rintro i v σ _ H2 hi ⟨xs, u4, u5, u6, rfl, g2, h2, dp2⟩ ⟨rfl, hv⟩
    rw [List.length_map] at hi
    rw [List.getElem?_map] at hv
    obtain ⟨b, hb, rfl⟩ := Option.map_eq_some_iff.mp hv
    obtain ⟨u, hu⟩ : ∃ u, W[i]? = some u := ⟨_, List.getElem?_eq_getElem (by omega)⟩
    have ht := (tup.g g2 (fun _ e => nomatch e)).2 i b u hb hu
    have um := web.mem u (List.mem_of_getElem? hu)
    have tk : W.take (i + 1) = W.take i ++ [u] := by rw [List.take_add_one, hu]; rfl
    obtain ⟨fy, hfy⟩ : ∃ f, bd[u.1.toNat]? = some f := ⟨_, List.getElem?_eq_getElem (by omega)⟩
    obtain ⟨dy, hdy⟩ : ∃ d, ds[u.1.toNat]? = some d := ⟨_, List.getElem?_eq_getElem (by omega)⟩
    obtain ⟨fx, hfx⟩ : ∃ f, bd[u.2.toNat]? = some f := ⟨_, List.getElem?_eq_getElem (by omega)⟩
    obtain ⟨dx, hdx⟩ : ∃ d, ds[u.2.toNat]? = some d := ⟨_, List.getElem?_eq_getElem (by omega)⟩
    have Fy := hfd _ fy dy hfy hdy
    have Fx := hfd _ fx dx hfx hdx
    have ndx := rec.nd dx (List.mem_of_getElem? hdx)
    have ndy := rec.nd dy (List.mem_of_getElem? hdy)
    refine ⟨b, _, rfl, SqT.of ht, rfl, ?_⟩
    refine ⟨_, _, rfl, ?_⟩
    walk_at "ws"
    refine ⟨_, _, rfl, ?_⟩
    walk_at "ws"
    refine ⟨rfl, ?_⟩
    dsimp only
    refine w_ifM (fun b' H' => H' = H2 ∧ (b' = true ↔ ((p : Int) ∈ dy ∧ (p : Int) ∈ dx))) (fun N kN => ?_) ?_
    · walk_at "ws"
      refine r_ixT (sqT_t g2.tups hbd) (v := .ref fy) (at_of (j := u.1.toNat) (by omega) (by rw [List.getElem?_map, hfy]; rfl)) ?_
      refine ⟨fy, _, rfl, .inr (Fy.n g2).sq, rfl, by rw [List.all_map, List.all_eq_true]; intro q _; rfl, ?_⟩
      rw [inV_ints]
      refine ⟨_, rfl, ?_⟩
      refine w_ite (fun e => ?_) (fun e => ?_)
      · have e : (p : Int) ∈ dy := by simpa using e
        walk_at "ws"
        refine r_ixT (sqT_t g2.tups hbd) (v := .ref fx) (at_of (j := u.2.toNat) (by omega) (by rw [List.getElem?_map, hfx]; rfl)) ?_
        refine ⟨fx, _, rfl, .inr (Fx.n g2).sq, rfl, by rw [List.all_map, List.all_eq_true]; intro q _; rfl, ?_⟩
        rw [inV_ints]
        refine ⟨_, rfl, ?_⟩
        exact kN _ _ ⟨rfl, by simp [e]⟩
      · have e : ¬ (p : Int) ∈ dy := by simpa using e
        exact kN _ _ ⟨rfl, by simp [e]⟩
    · rintro b' _ ⟨rfl, hb'⟩
      refine w_ite (fun e => ?_) (fun e => ?_)
      · obtain ⟨py, px⟩ := hb'.mp e
        walk_at "ws"
        refine r_ixT (sqT_t g2.tups hbd) (v := .ref fx) (at_of (j := u.2.toNat) (by omega) (by rw [List.getElem?_map, hfx]; rfl)) ?_
        walk_at "ws"
        refine w_bmt ?_
        walk_at "ws"
        refine r_ixT (sqT_t g2.tups hbd) (v := .ref fx) (at_of (j := u.2.toNat) (by omega) (by rw [List.getElem?_map, hfx]; rfl)) ?_
        refine ⟨⟨fx, _, rfl, Fx.n g2⟩, ?_⟩
        walk_at "ws"
        refine ⟨fx, dx, (p : Int), dx.idxOf (p : Int), rfl, rfl, (Fx.n g2).sq, idx_at px, fun j hj e => ?_, ?_⟩
        · have := idx_of ndx e
          omega
        walk_at "ws"
        refine ⟨fx, _, rfl, (Fx.n g2).sq, fun t3 H3 g3 h3 => ?_⟩
        have lix := idx_lt px
        rw [cut_to _ (by rw [List.length_map]; omega), ← List.map_take] at h3
        have g23 := g2.trans (g3 none)
        walk_at "ws"
        refine r_ixT (sqT_t g23.tups hbd) (v := .ref fy) (at_of (j := u.1.toNat) (by omega) (by rw [List.getElem?_map, hfy]; rfl)) ?_
        walk_at "ws"
        refine w_bmt ?_
        walk_at "ws"
        refine r_ixT (sqT_t g23.tups hbd) (v := .ref fy) (at_of (j := u.1.toNat) (by omega) (by rw [List.getElem?_map, hfy]; rfl)) ?_
        refine ⟨⟨fy, _, rfl, Fy.n g23⟩, ?_⟩
        walk_at "ws"
        refine ⟨fy, dy, (p : Int), dy.idxOf (p : Int), rfl, rfl, (Fy.n g23).sq, idx_at py, fun j hj e => ?_, ?_⟩
        · have := idx_of ndy e
          omega
        walk_at "ws"
        refine ⟨fy, _, rfl, (Fy.n g23).sq, fun t4 H4 g4 h4 => ?_⟩
        have liy := idx_lt py
        rw [cut_to _ (by rw [List.length_map]; omega), ← List.map_take] at h4
        refine i_tup h4 ?_
        intro R2 hR2
        have g24 := g23.trans (g4 none)
        have h43 := sqT_t (g4 none).tups h3
        have nR : (0 : Nat) ≤ 0 := Nat.le_refl 0
        refine lc_it (walk_tup (xs := (dy.take (dy.idxOf (p : Int))).map V.int)) (fun j H' => ∃ cs : List Bool, G none H4 H' ∧ H' R2 = some (.lst (cs.map V.bl)) ∧ cs.length = j ∧ (cs.all id = true ↔ ∀ q ∈ (dy.take (dy.idxOf (p : Int))).take j, q ∈ dx.take (dx.idxOf (p : Int)))) ⟨[], (G.refl).mut hR2 (fun _ e => nomatch e), upd_same, rfl, by simp⟩ (fun j H' _ ⟨_, q, _⟩ => sqT_t q.tups h4) ?_ ?_
        · rintro j v _ H5 hj ⟨cs, g5, h5, lc, all⟩ ⟨rfl, hv'⟩
          rw [List.length_map] at hj
          rw [List.getElem?_map] at hv'
          obtain ⟨z, hz, rfl⟩ := Option.map_eq_some_iff.mp hv'
          have tkz : (dy.take (dy.idxOf (p : Int))).take (j + 1) = (dy.take (dy.idxOf (p : Int))).take j ++ [z] := by rw [List.take_add_one, hz]; rfl
          have jl : j < 1000 := by
            have := diary_len ndy (rec.rng dy (List.mem_of_getElem? hdy))
            have := rec.p30
            rw [List.length_take] at hj
            omega
          walk_at "ws"
          refine ⟨rfl, ?_⟩
          walk_at "ws"
          refine ⟨t3, _, rfl, .inr (sqT_t g5.tups h43), rfl, by rw [List.all_map, List.all_eq_true]; intro q _; rfl, ?_⟩
          rw [inV_ints]
          refine ⟨cs.map V.bl, h5, Nat.lt_of_le_of_lt (by rw [List.length_map]; omega : (cs.map V.bl).length ≤ 100000) (by decide), cs ++ [decide (z ∈ dx.take (dx.idxOf (p : Int)))], g5.mut hR2 (fun _ e => nomatch e), by rw [upd_same, List.map_append]; rfl, by rw [List.length_append, lc]; rfl, ?_⟩
          rw [List.all_append, Bool.and_eq_true, all, tkz]
          constructor
          · rintro ⟨h1, h2⟩ q hq
            rcases List.mem_append.mp hq with y | y
            · exact h1 q y
            · have y : q = z := by simpa using y
              rw [y]; simpa using h2
          · intro h
            exact ⟨fun q hq => h q (List.mem_append_left _ hq), by simpa using h z (List.mem_append_right _ (List.mem_singleton.mpr rfl))⟩
        rintro H5 ⟨cs, g5, h5, lc, all⟩
        rw [List.length_map] at lc
        rw [List.length_map, List.take_length] at all
        walk_at "ws"
        refine ⟨R2, cs, rfl, SqL.of h5, ?_⟩
        refine ⟨_, rfl, ?_⟩
        have g25 := (g23.trans (g4 none)).trans g5
        have g25' : G none _ H5 := ((g3 none).trans (g4 none)).trans g5
        have h5R := g25'.all _ _ h2
        have dp5 := dpAll_t g25'.tups _ _ (nls_pairs _) dp2
        have gr : Grow ds u.1.toNat u.2.toNat p ↔ cs.all id = true := by
          rw [all]
          unfold Grow aheadOf
          rw [dAt_of hdy, dAt_of hdx]
          exact ⟨fun h => h.2.2, fun h => ⟨py, px, h⟩⟩
        have lxs : xs.length ≤ 49 := by
          rw [DpAll.length dp2, List.length_map]
          have := growL_len (W.take i) ds (p : Nat)
          rw [List.length_take] at this
          omega
        refine w_ite (fun e => ?_) (fun e => ?_)
        · walk_at "ws"
          refine i_BM h5R ?_
          walk_at "ws"
          refine ⟨sz (by simp), fun t H6 ht6 g6 h6 => ?_⟩
          have h6R := (g6 none).all _ _ h5R
          walk_at "ws"
          refine r_app h6R (by omega) ?_
          walk_at "ws"
          have g26 := g25.trans (g6 none)
          refine ⟨_, _, _, _, rfl, g26.mut hR (fun _ e => nomatch e), upd_same, ?_⟩
          rw [tk, growL_snoc, if_pos (gr.mpr e), List.map_append]
          have t6 : Ts H6 (upd H6 R (.lst (xs ++ [.ref t]))) := Ts.updl h6R
          exact DpAll.app (dpAll_t t6 _ _ (nls_pairs _) (dpAll_t (g6 none).tups _ _ (nls_pairs _) dp5)) (DpAll.one (dp_t t6 _ _ (nl_dP u) (dp_ofP (SqT.of h6))))
        · walk_at "ws"
          have nG : ¬ Grow ds u.1.toNat u.2.toNat p := fun G => by rw [gr.mp G] at e; cases e
          refine ⟨xs, _, _, _, rfl, g25, h5R, ?_⟩
          rw [tk, growL_snoc, if_neg nG, List.append_nil]
          exact dp5
      · walk_at "ws"
        refine ⟨xs, _, _, _, rfl, g2, h2, ?_⟩
        have nG : ¬ Grow ds u.1.toNat u.2.toNat p := fun G => by
          have : (p : Int) ∈ dy ∧ (p : Int) ∈ dx := by
            have q1 := G.1
            have q2 := G.2.1
            rw [dAt_of hdy] at q1
            rw [dAt_of hdx] at q2
            exact ⟨q1, q2⟩
          rw [hb'.mpr this] at e; cases e
        rw [tk, growL_snoc, if_neg nG, List.append_nil]
        exact dp2
  · rintro σ H2 ⟨xs, u4, u5, u6, rfl, g2, h2, dp2⟩
    rw [List.length_map, lb, List.take_length] at dp2
    walk_at "ws"
    exact k R xs H2 hR g2 h2 dp2

end
end Mine
/-! ## K42 -/


namespace Mine
section
variable {P : Program} {w : World} {K : PySem.W.Frag} {mg : Str → Option Value} {base : Heap} {a : Ads}

/-! ### trees -/
/-- what stands for a put: for each machine the one ahead of it -/
def trV (kvs : List (Key × V)) (n : Nat) : List V := (List.range n).map fun (x : Nat) => (valV kvs (Sum.inl (x : Int))).getD .non
theorem trV_succ (kvs : List (Key × V)) (n : Nat) : trV kvs (n + 1) = trV kvs n ++ [(valV kvs (Sum.inl (n : Int))).getD .non] := by
  unfold trV
  rw [List.range_succ, List.map_append]; rfl
theorem trV_len (kvs : List (Key × V)) (n : Nat) : (trV kvs n).length = n := by unfold trV; simp
theorem w_dget1 {td ty : TE} {σ : L2.St} {H : Hp} {Q : VK} (q : td σ H fun x H1 => ∃ a, x = .ref a ∧ IsD H1 a ∧ ty σ H1 fun y H2 => ∃ o, DGet H2 a y o ∧ Q (o.getD .non) H2) : tDGet1 td ty σ H Q := q
def sp_trees (K : PySem.W.Frag) (CW CR : Addr) : Sp := fun vs H Q _ => ∃ (x r : Addr) (m : Int) (W : List (Int × Int)) (ws : List Int) (ds : List (List Int)), vs = [.ref x, .ref r] ∧ WebAt K CW H x m W ∧ IsWeb m W ∧ RecAt K CR H r ws ds ∧ IsRec ws ds ∧ ds.length = m.toNat ∧
  (Full W ws ds → ∀ (t : Addr) (qs : List Addr) H', G none H H' → Rd H' t (.tup (qs.map V.ref)) → qs.length = ws.length →
    (∀ (p : Nat) (q : Addr), qs[p]? = some q → ∃ (w0 : Int) (kvs : List (Key × V)) (ks : List Int), ws[p]? = some w0 ∧ TreeK (growL W ds p) w0 kvs ks ∧ ks.Nodup ∧ (∀ z, z ∈ ks ↔ Reach (growL W ds p) w0 z) ∧ kvs = wfK (growL W ds p) w0 ∧ Rd H' q (.tup (trV kvs ds.length))) → Q (.ref t) H') ∧
  (¬ Full W ws ds → ∀ H', G none H H' → Q .non H')
theorem ok_trees (T : Txt K mg a) : FnOk P w K mg base CX0 7 a.f_trees a.d_trees P_trees (sp_trees K a.c_Web a.c_Record) := by
  refine T.F_trees.ok sc_trees (fun vs H Q E h => by obtain ⟨x, r, m, W, ws, ds, rfl, _⟩ := h; rfl) (fun cdv A outer s H vs Q E hr h => ?_)
  obtain ⟨x, r, m, W, ws, ds, rfl, hwb, web, hrr, rec, lm, kY, kN⟩ := h
  have m1 := web.lo
  have m7 := web.hi
  have l49 := isweb_len49 web
  have p30 := rec.p30
  have G_is_made : FnOk P w K mg base CX0 6 a.f_is_made a.d_is_made P_is_made (sp_is_made K a.c_Web a.c_Record) := ok_is_made T
  have G_wires_by_put : FnOk P w K mg base CX0 2 a.f_wires_by_put a.d_wires_by_put P_wires_by_put (sp_wires_by_put K a.c_Web a.c_Record) := ok_wires_by_put T
  have G_ways_from : FnOk P w K mg base CX0 1 a.f_ways_from a.d_ways_from P_ways_from (sp_ways_from K) := ok_ways_from T
  refine ⟨_, (pss_cons (ps_if (pt_not (pt_val (pe_call (G_is_made) (hr.mono (by omega)) rfl T.m_is_made T.F_is_made.kp T.b_is_made .nil pass0 (pa_cons (pv 0) (pa_cons (pv 1) pa_nil)))))
    (pss_one (ps_ret pe_non))
    pss_nil)
  (pss_cons (ps_set (i := 2) sc_trees.nd rfl (Or.inl rfl) (pe_lstN pa_nil))
  (pss_cons (ps_for PassesOwn.never rfl (pi_enum (by rfl) T.n_enumerate (pa_cons (pe_call (G_wires_by_put) (hr.mono (by omega)) rfl T.m_wires_by_put T.F_wires_by_put.kp T.b_wires_by_put .nil pass0 (pa_cons (pv 0) (pa_cons (pv 1) pa_nil))) pa_nil)) (pg_tup rfl (pgs_cons (pg_name (i := 3) sc_trees.nd rfl (Or.inl rfl)) (pgs_cons (pg_name (i := 4) sc_trees.nd rfl (Or.inl rfl)) pgs_nil)))
    (pss_cons (ps_set (i := 5) sc_trees.nd rfl (Or.inr rfl) (pe_call (G_ways_from) (hr.mono (by omega)) rfl T.m_ways_from T.F_ways_from.kp T.b_ways_from .nil pass0 (pa_cons (pe_ix ix_tup (pe_fld (pv 1) rfl) (pv 3) (fun _ _ => rfl)) (pa_cons (pv 4) pa_nil))))
  (pss_one (ps_expr (pe_bm PySem.F.plainAttrs_list PySem.F.slot_list_append PySem.F.type_list_append mt_append (pv 2) (pa_cons (pe_callTy call_tupleN (by rfl) T.n_tuple (by decide +kernel) (pa_cons (pe_lc (own := [("machine", 6)]) (g := (gName 6)) (tt := tYes) rfl sc_trees.nd (pi_range1 rfl T.n_range (pa_cons (pe_fld (pv 0) rfl) pa_nil)) (blkOk_by (N := N_trees) (sc := defScope s_trees) (by decide +kernel)) (fun _ _ _ _ _ => (pg_name (i := 6) sc_trees.nd rfl (by first | exact Or.inl rfl | exact Or.inr rfl))) (fun _ _ _ _ _ => pts_nil) (fun _ _ _ _ _ => (pe_dget1 (hu_of hr) (pv 5) (pv 6) ⟨rfl, rfl, rfl, rfl⟩))) pa_nil)) pa_nil))))))
  (pss_one (ps_ret (pe_callTy call_tupleN (by rfl) T.n_tuple (by decide +kernel) (pa_cons (pv 2) pa_nil))))))), ?_⟩
  walk_at "ws"
  refine ⟨x, r, m, W, ws, ds, rfl, hwb, web, hrr, rec, lm, fun b H1 g1 hb => ?_⟩
  walk_at "ws"
  cases b with
  | false =>
    walk_at "ws"
    exact kN (fun F => nomatch hb.mpr F) _ g1
  | true =>
    have F := hb.mp rfl
    walk_at "ws"
    refine ⟨sz (by simp), fun D H2 hD g2 h2 => ?_⟩
    have g02 := g1.trans (g2 none)
    have hD0 : H D = none := new_bk g1 hD
    walk_at "ws"
    refine w_ienum ?_
    walk_at "ws"
    refine ⟨x, r, m, W, ws, ds, rfl, hwb.n g02, web, hrr.n g02, rec, lm, fun R ls H3 hR g3 h3 ll lf pls => ?_⟩
    walk_at "ws"
    refine ⟨R, _, rfl, SqL.of h3, ?_⟩
    have g03 := g02.trans g3
    have h3D := g3.all _ _ h2
    have nRD : R ≠ D := (ne_of_none h2 hR).symm
    obtain ⟨dx, wa, hx, hwa⟩ := hwb.n g03
    obtain ⟨dr, wp, dp, hrr3, hwp3, _⟩ := hrr.n g03
    refine for_it (walk_enum (xs := ls.map V.ref)) (fun i σ H' => ∃ (u3 u4 u5 : Option V) (qs : List Addr), σ = [some (.ref x), some (.ref r), some (.ref D), u3, u4, u5, none] ∧ G none H H' ∧ (∀ a u, a ≠ D → H3 a = some u → H' a = some u) ∧ Ts H3 H' ∧ H' D = some (.lst (qs.map V.ref)) ∧ qs.length = i ∧
      ∀ (p : Nat) (q : Addr), qs[p]? = some q → ∃ (w0 : Int) (kvs : List (Key × V)) (ks : List Int), ws[p]? = some w0 ∧ TreeK (growL W ds p) w0 kvs ks ∧ ks.Nodup ∧ (∀ z, z ∈ ks ↔ Reach (growL W ds p) w0 z) ∧ kvs = wfK (growL W ds p) w0 ∧ Rd H' q (.tup (trV kvs ds.length))) ⟨_, _, _, [], rfl, g03, (fun _ _ _ h => h), (fun _ _ h => h), h3D, rfl, (fun _ _ h => by simp at h)⟩ (fun i σ H' _ ⟨_, _, _, _, _, _, kp, _⟩ => SqL.of (kp _ _ nRD h3)) ?_ ?_
    · rintro i v σ H4 H5 hi ⟨u3, u4, u5, qs, rfl, g4, kp, ts4, h4D, lq, hqs⟩ ⟨t, y, z, rfl, ht, rfl, ey, ez⟩
      cases Option.some.inj ey
      rw [List.length_map] at hi
      have g5 : G none H4 (upd H4 t (.tup [.int (i : Nat), z])) := G.alloc ht
      refine ⟨t, _, rfl, SqT.of upd_same, rfl, ?_⟩
      refine ⟨_, _, rfl, ?_⟩
      walk_at "ws"
      refine ⟨_, _, rfl, ?_⟩
      walk_at "ws"
      refine ⟨rfl, ?_⟩
      generalize upd H4 t (.tup [.int (i : Nat), z]) = H5 at g5 ⊢
      have ez : (ls.map V.ref)[i]? = some z := ez
      rw [List.getElem?_map] at ez
      obtain ⟨l, hl, rfl⟩ := Option.map_eq_some_iff.mp ez
      obtain ⟨w0, hw0⟩ : ∃ w0, ws[i]? = some w0 := ⟨_, List.getElem?_eq_getElem (by omega)⟩
      have w0r := rec.wr w0 (List.mem_of_getElem? hw0)
      have nlD : l ≠ D := fun e => by have := lf l (List.mem_of_getElem? hl); rw [e, h2] at this; cases this
      obtain ⟨bs2, a1, a2'⟩ := pls i l hl
      have a2 := tupAll_dp (K := K) (p := l) a2'
      generalize bs2.map V.ref = xs at a1 a2
      have b1 := g5.all _ _ (kp _ _ nlD a1)
      have b2 := dpAll_t (fun a xs e => g5.tups a xs (ts4 a xs e)) _ _ (nls_pairs _) a2
      have gl := growL_len W ds (i : Nat)
      have nrD : r ≠ D := ne_of hrr3 h3D (by intro z; cases z)
      have nxD : x ≠ D := ne_of hx h3D (by intro z; cases z)
      walk_at "ws"
      refine r_fld (g5.all _ _ (kp _ _ nrD hrr3)) T.cl_Record T.na_Record_writers (rf_w _ _) ?_
      walk_at "ws"
      refine r_ixT (sqT_t g5.tups (sqT_t ts4 hwp3)) (v := .int w0) (at_of (j := i) rfl (by rw [List.getElem?_map, hw0]; rfl)) ?_
      walk_at "ws"
      refine ⟨w0, m, l, xs, growL W ds (i : Nat), rfl, SqL.of b1, b2, growL_bd web ds _, by omega, by omega, by omega, fun f kvs ks H6 hf g6 h6 tr nk rk mem kw => ?_⟩
      walk_at "ws"
      have g46 := g5.trans g6
      have h6D := g46.all _ _ h4D
      refine i_BM h6D ?_
      walk_at "ws"
      refine r_fld (g46.all _ _ (kp _ _ nxD hx)) T.cl_Web T.na_Web_machines (wf_m _ _) ?_
      walk_at "ws"
      refine i_rng1 (by omega) (by omega) ?_
      intro R2 hR2
      refine lc_it walk_range (fun j H' => G none H6 H' ∧ H' R2 = some (.lst (trV kvs j))) ⟨(G.refl).mut hR2 (fun _ e => nomatch e), upd_same⟩ (fun _ _ _ _ => trivial) ?_ ?_
      · rintro j _ H7 H8 hj ⟨g7, h7⟩ ⟨rfl, rfl⟩
        show gName 6 (.int (0 + (j : Int))) _ _ _
        rw [Int.zero_add]
        walk_at "ws"
        refine ⟨rfl, ?_⟩
        walk_at "ws"
        refine w_dget1 ?_
        walk_at "ws"
        have h7f := g7.all _ _ h6
        refine ⟨f, rfl, .inl ⟨_, .inl h7f⟩, ?_⟩
        walk_at "ws"
        refine ⟨_, DGet.k (k := Sum.inl (j : Int)) h7f, ?_⟩
        refine ⟨_, h7, Nat.lt_of_le_of_lt (by rw [trV_len]; omega) (by decide : 100 < sizeLine), g7.mut hR2 (fun _ e => nomatch e), by rw [upd_same, trV_succ]⟩
      rintro H7 ⟨g7, h7⟩
      rw [← lm] at h7
      walk_at "ws"
      refine ⟨R2, _, rfl, .inl ⟨SqL.of h7, fun q H8 hq g8 h8 => ?_⟩⟩
      walk_at "ws"
      have g48 := (g46.trans g7).trans (g8 none)
      have h8D := g48.all _ _ h4D
      refine r_app h8D (by rw [List.length_map]; omega) ?_
      walk_at "ws"
      have tS : Ts H8 (upd H8 D (.lst (qs.map V.ref ++ [.ref q]))) := Ts.updl h8D
      refine ⟨_, _, _, qs ++ [q], rfl, (g4.trans g48).mut hD0 (fun _ e => nomatch e), (fun a u n e => by rw [upd_ne n]; exact g48.all _ _ (kp a u n e)), (fun a xs e => tS a xs (g48.tups a xs (ts4 a xs e))), by rw [upd_same, List.map_append]; rfl, by rw [List.length_append, lq]; rfl, fun p q' e => ?_⟩
      rcases Nat.lt_or_ge p qs.length with c | c
      · rw [List.getElem?_append_left c] at e
        obtain ⟨w1, kvs1, ks1, q1, q2, q3, q4, qw, q5⟩ := hqs p q' e
        exact ⟨w1, kvs1, ks1, q1, q2, q3, q4, qw, tS _ _ (g48.tups _ _ q5)⟩
      · have ep : p = i := by
          have := (List.getElem?_eq_some_iff.mp e).1
          rw [List.length_append, List.length_singleton] at this
          omega
        subst ep
        rw [List.getElem?_append_right c, lq, Nat.sub_self] at e
        cases e
        exact ⟨w0, kvs, ks, hw0, tr, nk, mem, kw, tS _ _ (.inl h8)⟩
    · rintro σ H4 ⟨u3, u4, u5, qs, rfl, g4, kp, ts4, h4D, lq, hqs⟩
      rw [List.length_map] at lq
      walk_at "ws"
      refine ⟨D, _, rfl, .inl ⟨SqL.of h4D, fun t H5 ht g5 h5 => ?_⟩⟩
      walk_at "ws"
      refine kY F t qs H5 (g4.trans (g5 none)) (.inl h5) (by omega) fun p q hq => ?_
      obtain ⟨w0, kvs, ks, q1, q2, q3, q4, qw, q5⟩ := hqs p q hq
      exact ⟨w0, kvs, ks, q1, q2, q3, q4, qw, (g5 none).tups _ _ q5⟩

end
end Mine
/-! ## K43 -/


namespace Mine
section
variable {P : Program} {w : World} {K : PySem.W.Frag} {mg : Str → Option Value} {base : Heap} {a : Ads}

/-! ### is_lot, is_bar -/
/-- the turns of a comprehension over a list of bools that are all alike: kept as a list -/
def Bls (H' : Hp) (D : Addr) (j : Nat) (b : Bool) : Prop := ∃ cs : List Bool, H' D = some (.lst (cs.map V.bl)) ∧ cs.length = j ∧ ∀ c ∈ cs, c = b
theorem Bls.nil {H1 : Hp} {D : Addr} {b : Bool} : Bls (upd H1 D (.lst [])) D 0 b := ⟨[], upd_same, rfl, fun _ h => nomatch h⟩
theorem Bls.app {H' : Hp} {D : Addr} {j : Nat} {b c : Bool} (h : Bls H' D j b) (e : c = b) (hj : j ≤ 1000) : ∃ acc, H' D = some (.lst acc) ∧ acc.length < sizeLine ∧ Bls (upd H' D (.lst (acc ++ [V.bl c]))) D (j + 1) b := by
  obtain ⟨cs, h1, h2, h3⟩ := h
  refine ⟨cs.map V.bl, h1, Nat.lt_of_le_of_lt (by rw [List.length_map]; omega : (cs.map V.bl).length ≤ 1000) (by decide), cs ++ [c], by rw [upd_same, List.map_append]; rfl, by rw [List.length_append, h2]; rfl, fun x hx => ?_⟩
  rcases List.mem_append.mp hx with q | q
  · exact h3 x q
  · rw [show x = c from by simpa using q]; exact e
theorem Bls.n {H' H'' : Hp} {D : Addr} {j : Nat} {b : Bool} (h : Bls H' D j b) (g : G none H' H'') : Bls H'' D j b := let ⟨cs, h1, h2, h3⟩ := h; ⟨cs, g.all _ _ h1, h2, h3⟩
theorem Bls.all {H' : Hp} {D : Addr} {j : Nat} (h : Bls H' D j true) : ∃ cs : List Bool, SqL K H' D (cs.map V.bl) ∧ cs.all id = true := by
  obtain ⟨cs, h1, _, h3⟩ := h
  exact ⟨cs, SqL.of h1, List.all_eq_true.mpr fun c hc => h3 c hc⟩
theorem Bls.any {H' : Hp} {D : Addr} {j : Nat} (h : Bls H' D j false) : ∃ cs : List Bool, SqL K H' D (cs.map V.bl) ∧ cs.any id = false := by
  obtain ⟨cs, h1, _, h3⟩ := h
  exact ⟨cs, SqL.of h1, List.any_eq_false.mpr fun c hc => by rw [h3 c hc]; simp⟩
theorem flat_ints (ns : List Int) : (ns.map V.int).all flatV = true := by rw [List.all_map, List.all_eq_true]; intro q _; rfl
theorem asc_get {ns : List Int} (h : ns.Pairwise (· < ·)) {i : Nat} {x y : Int} (h1 : ns[i]? = some x) (h2 : ns[i + 1]? = some y) : x < y := by
  obtain ⟨a1, b1⟩ := List.getElem?_eq_some_iff.mp h1
  obtain ⟨a2, b2⟩ := List.getElem?_eq_some_iff.mp h2
  have := List.pairwise_iff_getElem.mp h i (i + 1) a1 a2 (by omega)
  rw [b1, b2] at this
  exact this
def sp_are_ascending (K : PySem.W.Frag) : Sp := fun vs H Q _ => ∃ (p : Addr) (ns : List Int), vs = [.ref p] ∧ SqT K H p (ns.map V.int) ∧ ns.Pairwise (· < ·) ∧ 1 ≤ ns.length ∧ ns.length ≤ 1000 ∧ ∀ H', G none H H' → Q (.bl true) H'
theorem ok_are_ascending (T : Txt K mg a) : FnOk P w K mg base CX0 1 a.f_are_ascending a.d_are_ascending P_are_ascending (sp_are_ascending K) := by
  refine T.F_are_ascending.ok sc_are_ascending (fun vs H Q E h => by obtain ⟨p, ns, rfl, _⟩ := h; rfl) (fun cdv A outer s H vs Q E hr h => ?_)
  obtain ⟨p, ns, rfl, hp, asc, h1z, hz, k⟩ := h
  refine ⟨_, (pss_one (ps_ret (pe_callB (cr_all rfl) (by rfl) T.n_all (by decide +kernel) (pa_cons (pe_lc (own := [("one", 1), ("other", 2)]) (g := (gTup K 2 (gCons (gName 1) (gCons (gName 2) gNil)))) (tt := tYes) rfl sc_are_ascending.nd (RZ.pi_zipA (by rfl) T.n_zip (pa_cons (pv 0) (pa_cons (pe_slice sl_tupAN (pv 0) (po_some pe_int) po_none) pa_nil))) (blkOk_by (N := N_are_ascending) (sc := defScope s_are_ascending) (by decide +kernel)) (fun _ _ _ _ _ => (pg_tup rfl (pgs_cons (pg_name (i := 1) sc_are_ascending.nd rfl (by first | exact Or.inl rfl | exact Or.inr rfl)) (pgs_cons (pg_name (i := 2) sc_are_ascending.nd rfl (by first | exact Or.inl rfl | exact Or.inr rfl)) pgs_nil)))) (fun _ _ _ _ _ => pts_nil) (fun _ _ _ _ _ => (pe_cmpR op_lt (pv 1) (pv 2) (nomark _)))) pa_nil)))), ?_⟩
  walk_at "ws"
  refine ⟨p, _, rfl, hp, fun q H1 g1 h1 => ?_⟩
  have e1 : cutV (ns.map V.int) (some 1) none = (ns.map V.int).drop 1 := cut_from (ns.map V.int) (k := 0) (by rw [List.length_map]; omega)
  rw [e1, ← List.map_drop] at h1
  walk_at "ws"
  refine ⟨p, q, _, _, rfl, .inr ⟨sqT_t (g1 none).tups hp, h1, ?_⟩⟩
  intro D hD
  refine lc_it (walk_zipT (xs := ns.map V.int) (ys := (ns.drop 1).map V.int) rfl) (fun i H' => G none H1 H' ∧ Bls H' D i true) ⟨(G.refl).mut hD (fun _ e => nomatch e), .nil⟩ (fun i H' _ g => ⟨sqT_t ((g1 none).trans g.1).tups hp, sqT_t g.1.tups h1⟩) ?_ ?_
  · rintro i v H2 H3 hi ⟨g2, bl⟩ ⟨t, y, z, rfl, ht, rfl, ey, ez⟩
    have ey : (ns.map V.int)[i]? = some y := ey
    have ez : ((ns.drop 1).map V.int)[i]? = some z := ez
    rw [List.getElem?_map] at ey ez
    obtain ⟨y0, hy0, rfl⟩ := Option.map_eq_some_iff.mp ey
    obtain ⟨z0, hz0, rfl⟩ := Option.map_eq_some_iff.mp ez
    rw [List.getElem?_drop, Nat.add_comm] at hz0
    have gB : G none H2 (upd H2 t (.tup [.int y0, .int z0])) := G.alloc ht
    refine ⟨t, _, rfl, SqT.of upd_same, rfl, ?_⟩
    refine ⟨_, _, rfl, ?_⟩
    walk_at "ws"
    refine ⟨_, _, rfl, ?_⟩
    walk_at "ws"
    refine ⟨rfl, rfl, ?_⟩
    generalize upd H2 t (.tup [.int y0, .int z0]) = H3 at gB ⊢
    walk_at "ws"
    rw [List.length_map, List.length_map] at hi
    obtain ⟨acc, q1, q2, q3⟩ := (bl.n gB).app (c := decide (y0 < z0)) (decide_eq_true (asc_get asc hy0 hz0)) (by omega)
    exact ⟨acc, q1, q2, (g2.trans gB).mut hD (fun _ e => nomatch e), q3⟩
  rintro H2 ⟨g2, bl⟩
  obtain ⟨cs, c1, c2⟩ := bl.all (K := K)
  walk_at "ws"
  refine ⟨D, cs, rfl, c1, ?_⟩
  rw [c2]
  exact k _ ((g1 none).trans g2)
def sp_is_lot (K : PySem.W.Frag) : Sp := fun vs H Q _ => ∃ (b : Int) (p : Addr) (ns : List Int), vs = [.int b, .ref p] ∧ SqT K H p (ns.map V.int) ∧ (∀ z ∈ ns, 0 ≤ z ∧ z < b) ∧ ns.Pairwise (· < ·) ∧ 1 ≤ ns.length ∧ ns.length ≤ 1000 ∧ ∀ H', G none H H' → Q (.bl true) H'
theorem ok_is_lot (T : Txt K mg a) : FnOk P w K mg base CX0 5 a.f_is_lot a.d_is_lot P_is_lot (sp_is_lot K) := by
  refine T.F_is_lot.ok sc_is_lot (fun vs H Q E h => by obtain ⟨b, p, ns, rfl, _⟩ := h; rfl) (fun cdv A outer s H vs Q E hr h => ?_)
  obtain ⟨b, p, ns, rfl, hp, hb, asc, h1z, hz, k⟩ := h
  have G_are_below : FnOk P w K mg base CX0 4 a.f_are_below a.d_are_below P_are_below (sp_are_below K) := ok_are_below T
  have G_are_ascending : FnOk P w K mg base CX0 1 a.f_are_ascending a.d_are_ascending P_are_ascending (sp_are_ascending K) := ok_are_ascending T
  refine ⟨_, (pss_one (ps_ret (pe_and (pe_callB call_isi (by rfl) T.n_isinstance (by decide +kernel) (pa_cons (pv 1) (pa_cons (pe_bltn (v := .ty "tuple") (u := .type "tuple") rfl T.n_tuple (by decide +kernel) rfl) pa_nil))) (pe_and (pe_call (G_are_below) (hr.mono (by omega)) rfl T.m_are_below T.F_are_below.kp T.b_are_below .nil pass0 (pa_cons (pv 0) (pa_cons (pv 1) pa_nil))) (pe_one (pe_call (G_are_ascending) (hr.mono (by omega)) rfl T.m_are_ascending T.F_are_ascending.kp T.b_are_ascending .nil pass0 (pa_cons (pv 1) pa_nil))))))), ?_⟩
  walk_at "ws"
  refine r_isi (tyx_tup hp) ki_tt ?_
  walk_at "ws"
  refine ⟨b, p, ns, rfl, hp, by omega, fun H1 g1 => ?_⟩
  have e1 : ns.all (inB b) = true := by
    rw [List.all_eq_true]
    intro x hx
    have := hb x hx
    simp only [inB, Bool.and_eq_true, decide_eq_true_eq]
    exact this
  rw [e1]
  walk_at "ws"
  exact ⟨p, ns, rfl, sqT_t g1.tups hp, asc, h1z, hz, fun H2 g2 => k _ (g1.trans g2)⟩
def sp_is_bar (K : PySem.W.Frag) (CW CR : Addr) : Sp := fun vs H Q _ => ∃ (x r t t1 : Addr) (m : Int) (W : List (Int × Int)) (ws : List Int) (ds : List (List Int)) (p : Nat) (lot : List Int), vs = [.ref x, .ref r, .ref t] ∧ WebAt K CW H x m W ∧ IsWeb m W ∧ RecAt K CR H r ws ds ∧ IsRec ws ds ∧ ds.length = m.toNat ∧
  SqT K H t [.int (p : Nat), .ref t1] ∧ SqT K H t1 (lot.map V.int) ∧ p < ws.length ∧ 1 ≤ lot.length ∧ lot.length ≤ 7 ∧ lot.Pairwise (· < ·) ∧ (∀ z ∈ lot, z ∈ hold ds p) ∧ (∀ w, ws[p]? = some w → w ∉ lot) ∧ (∀ u ∈ growL W ds p, u.2 ∈ lot → u.1 ∈ lot) ∧ ∀ H', G none H H' → Q (.bl true) H'
theorem ok_is_bar (T : Txt K mg a) : FnOk P w K mg base CX0 6 a.f_is_bar a.d_is_bar P_is_bar (sp_is_bar K a.c_Web a.c_Record) := by
  refine T.F_is_bar.ok sc_is_bar (fun vs H Q E h => by obtain ⟨x, r, t, t1, m, W, ws, ds, p, lot, rfl, _⟩ := h; rfl) (fun cdv A outer s H vs Q E hr h => ?_)
  obtain ⟨x, r, t, t1, m, W, ws, ds, p, lot, rfl, hwb, web, hrr, rec, lm, ht, ht1, hp, l1, l7, asc, hold_, own, shut, k⟩ := h
  have m1 := web.lo
  have p30 := rec.p30
  have G_check_machines : FnOk P w K mg base CX0 4 a.f_check_machines a.d_check_machines P_check_machines (sp_check_machines K a.c_Record) := ok_check_machines T
  have G_is_tuple_of : FnOk P w K mg base CX0 1 a.f_is_tuple_of a.d_is_tuple_of P_is_tuple_of (sp_is_tuple_of K) := ok_is_tuple_of T
  have G_is_below : FnOk P w K mg base CX0 3 a.f_is_below a.d_is_below P_is_below sp_is_below := ok_is_below T
  have G_is_lot : FnOk P w K mg base CX0 5 a.f_is_lot a.d_is_lot P_is_lot (sp_is_lot K) := ok_is_lot T
  have G_holders_by_put : FnOk P w K mg base CX0 1 a.f_holders_by_put a.d_holders_by_put P_holders_by_put (sp_holders_by_put K a.c_Record) := ok_holders_by_put T
  have G_growing : FnOk P w K mg base CX0 5 a.f_growing a.d_growing P_growing (sp_growing K a.c_Web a.c_Record) := ok_growing T
  refine ⟨_, (pss_cons (ps_expr (pe_call (G_check_machines) (hr.mono (by omega)) rfl T.m_check_machines T.F_check_machines.kp T.b_check_machines .nil pass0 (pa_cons (pe_fld (pv 0) rfl) (pa_cons (pv 1) pa_nil))))
  (pss_cons (ps_if (pt_not (pt_val (pe_call (G_is_tuple_of) (hr.mono (by omega)) rfl T.m_is_tuple_of T.F_is_tuple_of.kp T.b_is_tuple_of .nil pass0 (pa_cons pe_int (pa_cons pe_int (pa_cons (pv 2) pa_nil))))))
    (pss_one (ps_ret pe_bl))
    pss_nil)
  (pss_cons (ps_asg (pv 2) (pg_tup rfl (pgs_cons (pg_name (i := 3) sc_is_bar.nd rfl (Or.inl rfl)) (pgs_cons (pg_name (i := 4) sc_is_bar.nd rfl (Or.inr rfl)) pgs_nil))))
  (pss_cons (ps_if (L2.PW.pt (pw_or (pt_not (pt_val (pe_call (G_is_below) (hr.mono (by omega)) rfl T.m_is_below T.F_is_below.kp T.b_is_below .nil pass0 (pa_cons (pe_callB call_len_seq (by rfl) T.n_len (by decide +kernel) (pa_cons (pe_fld (pv 1) rfl) pa_nil)) (pa_cons (pv 3) pa_nil))))) (pw_or (pt_not (pt_val (pe_call (G_is_lot) (hr.mono (by omega)) rfl T.m_is_lot T.F_is_lot.kp T.b_is_lot .nil pass0 (pa_cons (pe_fld (pv 0) rfl) (pa_cons (pv 4) pa_nil))))) (pw_or1 (pt_cmpR (op_eqD hr.units) (pv 4) (pe_tupN pa_nil) (nomark _))))))
    (pss_one (ps_ret pe_bl))
    pss_nil)
  (pss_cons (ps_set (i := 5) sc_is_bar.nd rfl (Or.inr rfl) (pe_ix ix_list (pe_call (G_holders_by_put) (hr.mono (by omega)) rfl T.m_holders_by_put T.F_holders_by_put.kp T.b_holders_by_put .nil pass0 (pa_cons (pv 1) pa_nil)) (pv 3) (fun _ _ => rfl)))
  (pss_cons (ps_if (L2.PW.pt (pw_or (pt_cmpR op_in_seq (pe_ix ix_tup (pe_fld (pv 1) rfl) (pv 3) (fun _ _ => rfl)) (pv 4) (by rfl)) (pw_or1 (pt_val (pe_callB (cr_any rfl) (by rfl) T.n_any (by decide +kernel) (pa_cons (pe_lc (own := [("machine", 6)]) (g := (gName 6)) (tt := tYes) rfl sc_is_bar.nd (pi_tup (pv 4)) (blkOk_by (N := N_is_bar) (sc := defScope s_is_bar) (by decide +kernel)) (fun _ _ _ _ _ => (pg_name (i := 6) sc_is_bar.nd rfl (by first | exact Or.inl rfl | exact Or.inr rfl))) (fun _ _ _ _ _ => pts_nil) (fun _ _ _ _ _ => (pe_cmpR (k_op_notIn_seq K) (pv 6) (pv 5) (by rfl)))) pa_nil))))))
    (pss_one (ps_ret pe_bl))
    pss_nil)
  (pss_one (ps_ret (pe_not (pe_callB (cr_any rfl) (by rfl) T.n_any (by decide +kernel) (pa_cons (pe_lc (own := [("y", 7), ("x", 8)]) (g := (gTup K 2 (gCons (gName 7) (gCons (gName 8) gNil)))) (tt := tYes) rfl sc_is_bar.nd (pi_list (pe_call (G_growing) (hr.mono (by omega)) rfl T.m_growing T.F_growing.kp T.b_growing .nil pass0 (pa_cons (pv 0) (pa_cons (pv 1) (pa_cons (pv 3) pa_nil))))) (blkOk_by (N := N_is_bar) (sc := defScope s_is_bar) (by decide +kernel)) (fun _ _ _ _ _ => (pg_tup rfl (pgs_cons (pg_name (i := 7) sc_is_bar.nd rfl (by first | exact Or.inl rfl | exact Or.inr rfl)) (pgs_cons (pg_name (i := 8) sc_is_bar.nd rfl (by first | exact Or.inl rfl | exact Or.inr rfl)) pgs_nil)))) (fun _ _ _ _ _ => pts_nil) (fun _ _ _ _ _ => (pe_and (pe_cmpR (k_op_in_seq K) (pv 8) (pv 4) (by rfl)) (pe_one (pe_cmpR (k_op_notIn_seq K) (pv 7) (pv 4) (by rfl)))))) pa_nil))))))))))), ?_⟩
  walk_at "ws"
  obtain ⟨dx, wa, hx, hwa⟩ := id hwb
  obtain ⟨dr, wp, dp, hrr0, hwp, _⟩ := id hrr
  refine r_fld hx T.cl_Web T.na_Web_machines (wf_m _ _) ?_
  walk_at "ws"
  refine ⟨r, ws, ds, by rw [show m = (ds.length : Int) from by omega]; rfl, hrr, ?_⟩
  walk_at "ws"
  refine ⟨2, 2, t, _, rfl, ht, ?_⟩
  refine ⟨_, rfl, ?_⟩
  refine w_iteN rfl ?_
  walk_at "ws"
  refine ⟨t, _, rfl, ht, rfl, ?_⟩
  refine ⟨_, _, rfl, ?_⟩
  walk_at "ws"
  refine ⟨_, _, rfl, ?_⟩
  walk_at "ws"
  refine ⟨rfl, ?_⟩
  walk_at "ws"
  refine r_fld hrr0 T.cl_Record T.na_Record_writers (rf_w _ _) ?_
  refine ⟨wp, _, rfl, .inr hwp, ?_⟩
  walk_at "ws"
  rw [List.length_map]
  refine ⟨_, _, rfl, ?_⟩
  refine ⟨_, rfl, ?_⟩
  refine w_iteN (by simp; omega) ?_
  walk_at "ws"
  refine r_fld hx T.cl_Web T.na_Web_machines (wf_m _ _) ?_
  walk_at "ws"
  refine ⟨m, t1, lot, rfl, ht1, fun z hz => ?_, asc, l1, by omega, fun H1 g1 => ?_⟩
  · obtain ⟨y, rfl, hy, _⟩ := hold_mem.mp (hold_ z hz)
    omega
  walk_at "ws"
  refine ⟨sz (by simp), fun q H2 hq g2 h2 => ?_⟩
  have g02 := g1.trans (g2 none)
  refine ⟨dI lot, dI [], dp_ofI (sqT_t g02.tups ht1), dp_ofI (SqT.of h2), sh_dI _, sh_dI _, ?_⟩
  rw [eqv_dI, decide_eq_false (fun e => by rw [e] at l1; simp at l1)]
  refine ⟨_, rfl, ?_⟩
  refine w_iteN rfl ?_
  walk_at "ws"
  refine ⟨r, ws, ds, rfl, hrr.n g02, rec, fun R ls H3 hR g3 h3 ll ils => ?_⟩
  have g03 := g02.trans g3
  walk_at "ws"
  obtain ⟨l, hl⟩ : ∃ l, ls[p]? = some l := ⟨_, List.getElem?_eq_getElem (by omega)⟩
  obtain ⟨w0, hw0⟩ : ∃ w0, ws[p]? = some w0 := ⟨_, List.getElem?_eq_getElem hp⟩
  refine r_ixL (SqL.of h3) (v := .ref l) (at_of (j := p) rfl (by rw [List.getElem?_map, hl]; rfl)) ?_
  walk_at "ws"
  refine r_fld (g03.all _ _ hrr0) T.cl_Record T.na_Record_writers (rf_w _ _) ?_
  walk_at "ws"
  refine r_ixT (sqT_t g03.tups hwp) (v := .int w0) (at_of (j := p) rfl (by rw [List.getElem?_map, hw0]; rfl)) ?_
  walk_at "ws"
  have ht13 := sqT_t g03.tups ht1
  refine ⟨t1, _, rfl, .inr ht13, rfl, flat_ints lot, ?_⟩
  rw [inV_ints, decide_eq_false (own w0 hw0)]
  refine ⟨_, rfl, ?_⟩
  refine w_iteN rfl ?_
  walk_at "ws"
  refine i_tup ht13 ?_
  intro D hD
  refine lc_it (walk_tup (xs := lot.map V.int)) (fun i H' => G none H3 H' ∧ Bls H' D i false) ⟨(G.refl).mut hD (fun _ e => nomatch e), .nil⟩ (fun i H' _ g => sqT_t g.1.tups ht13) ?_ ?_
  · rintro i v _ H4 hi ⟨g4, bl⟩ ⟨rfl, hv⟩
    rw [List.length_map] at hi
    rw [List.getElem?_map] at hv
    obtain ⟨z, hz, rfl⟩ := Option.map_eq_some_iff.mp hv
    walk_at "ws"
    refine ⟨rfl, ?_⟩
    walk_at "ws"
    refine ⟨l, _, rfl, .inl (SqL.of (g4.all _ _ (ils p l hl))), rfl, flat_ints _, ?_⟩
    rw [inV_ints]
    obtain ⟨acc, q1, q2, q3⟩ := bl.app (c := !decide (z ∈ hold ds p)) (by rw [decide_eq_true (hold_ z (List.mem_of_getElem? hz))]; rfl) (by omega)
    exact ⟨acc, q1, q2, g4.mut hD (fun _ e => nomatch e), q3⟩
  rintro H4 ⟨g4, bl⟩
  obtain ⟨cs, c1, c2⟩ := bl.any (K := K)
  walk_at "ws"
  refine ⟨D, cs, rfl, c1, ?_⟩
  rw [c2]
  refine ⟨_, rfl, ?_⟩
  refine w_iteN rfl ?_
  walk_at "ws"
  have g04 := g03.trans g4
  refine ⟨x, r, m, W, ws, ds, p, rfl, hwb.n g04, web, hrr.n g04, rec, lm, hp, fun l5 xs H5 g5 h5 dp5 => ?_⟩
  walk_at "ws"
  refine i_list (SqL.of h5) ?_
  intro D2 hD2
  have lxs := DpAll.length dp5
  rw [List.length_map] at lxs
  have gl := growL_len W ds (p : Nat)
  have l49 := isweb_len49 web
  refine lc_it (walk_list (xs := xs)) (fun i H' => G none H5 H' ∧ Bls H' D2 i false) ⟨(G.refl).mut hD2 (fun _ e => nomatch e), .nil⟩ (fun i H' _ g => sqL_n g.1 (SqL.of h5)) ?_ ?_
  · rintro i v _ H6 hi ⟨g6, bl⟩ ⟨rfl, hv⟩
    obtain ⟨d, hd, hvd⟩ := DpAll.get dp5 hv
    rw [List.getElem?_map] at hd
    obtain ⟨u, hu, rfl⟩ := Option.map_eq_some_iff.mp hd
    obtain ⟨tt, rfl, htt⟩ := dp_dP hvd
    have ht16 := sqT_t ((g4.trans g5).trans g6).tups ht13
    refine ⟨tt, _, rfl, sqT_t g6.tups htt, rfl, ?_⟩
    refine ⟨_, _, rfl, ?_⟩
    walk_at "ws"
    refine ⟨_, _, rfl, ?_⟩
    walk_at "ws"
    refine ⟨rfl, rfl, ?_⟩
    walk_at "ws"
    refine ⟨t1, _, rfl, .inr ht16, rfl, flat_ints lot, ?_⟩
    rw [inV_ints]
    refine ⟨_, rfl, ?_⟩
    refine w_ite (fun e => ?_) (fun e => ?_)
    · have e : u.2 ∈ lot := by simpa using e
      walk_at "ws"
      refine ⟨t1, _, rfl, .inr ht16, rfl, flat_ints lot, ?_⟩
      rw [inV_ints]
      obtain ⟨acc, q1, q2, q3⟩ := bl.app (c := !decide (u.1 ∈ lot)) (by rw [decide_eq_true (shut u (List.mem_of_getElem? hu) e)]; rfl) (by omega)
      exact ⟨acc, q1, q2, g6.mut hD2 (fun _ e => nomatch e), q3⟩
    · obtain ⟨acc, q1, q2, q3⟩ := bl.app (c := false) rfl (by omega)
      exact ⟨acc, q1, q2, g6.mut hD2 (fun _ e => nomatch e), q3⟩
  rintro H6 ⟨g6, bl⟩
  obtain ⟨cs, c1, c2⟩ := bl.any (K := K)
  walk_at "ws"
  refine ⟨D2, cs, rfl, c1, ?_⟩
  rw [c2]
  refine ⟨_, rfl, ?_⟩
  exact k _ ((g04.trans g5).trans g6)

end
end Mine
/-! ## TM -/
end
open PySem L2 GA
namespace Mine
/-! ### what a tree tells -/
theorem TreeK.nd {us : List (Int × Int)} {y : Int} {kvs : List (Key × V)} {ks : List Int} (t : TreeK us y kvs ks) : ks.Nodup := by
  induction t with
  | one => simp
  | @more kvs qs x here t _ _ nx ih =>
    refine List.nodup_append.mpr ⟨ih, by simp, fun a ha b hb e => nx ?_⟩
    have q : b = x := by simpa using hb
    rw [← q, ← e]; exact ha
theorem TreeK.no {us : List (Int × Int)} {y : Int} {kvs : List (Key × V)} {ks : List Int} (t : TreeK us y kvs ks) {z : Int} (h : z ∉ ks) : valV kvs (Sum.inl z) = none := by
  have e := kv_any t.keys z
  rw [valV_any, decide_eq_false h] at e
  exact Option.isSome_eq_false_iff.mp e |> Option.isNone_iff_eq_none.mp
theorem TreeK.root {us : List (Int × Int)} {y : Int} {kvs : List (Key × V)} {ks : List Int} (t : TreeK us y kvs ks) : ks[0]? = some y ∧ valV kvs (Sum.inl y) = some .non := by
  induction t with
  | one => exact ⟨rfl, valV_pos rfl⟩
  | @more kvs qs x here t hh _ nx ih =>
    obtain ⟨h1, h2⟩ := ih
    have l := (List.getElem?_eq_some_iff.mp h1).1
    refine ⟨by rw [List.getElem?_append_left l]; exact h1, ?_⟩
    rw [valV_snoc _ _ _ _ (t.no nx), if_neg (fun e => nx ?_)]
    · exact h2
    · cases e
      exact List.mem_of_getElem? h1
theorem TreeK.at_ {us : List (Int × Int)} {y : Int} {kvs : List (Key × V)} {ks : List Int} (t : TreeK us y kvs ks) : ∀ (i : Nat) (z : Int), ks[i + 1]? = some z → ∃ h, valV kvs (Sum.inl z) = some (.int h) ∧ h ∈ ks.take (i + 1) ∧ (h, z) ∈ us := by
  induction t with
  | one => intro i z e; simp at e
  | @more kvs qs x here t hh hu nx ih =>
    intro i z e
    rcases Nat.lt_or_ge (i + 1) qs.length with c | c
    · rw [List.getElem?_append_left c] at e
      obtain ⟨h, h1, h2, h3⟩ := ih i z e
      refine ⟨h, ?_, by rw [List.take_append_of_le_length (by omega)]; exact h2, h3⟩
      rw [valV_snoc _ _ _ _ (t.no nx), if_neg (fun q => nx ?_)]
      · exact h1
      · cases q
        exact List.mem_of_getElem? e
    · have ei : i + 1 = qs.length := by
        have := (List.getElem?_eq_some_iff.mp e).1
        rw [List.length_append, List.length_singleton] at this
        omega
      rw [List.getElem?_append_right (by omega), ei, Nat.sub_self] at e
      cases e
      refine ⟨here, by rw [valV_snoc _ _ _ _ (t.no nx), if_pos rfl], ?_, hu⟩
      rw [ei, List.take_left]
      exact hh
theorem TreeK.in_ {us : List (Int × Int)} {y : Int} {kvs : List (Key × V)} {ks : List Int} (t : TreeK us y kvs ks) {z : Int} (h : z ∈ ks) (n : z ≠ y) : ∃ h, valV kvs (Sum.inl z) = some (.int h) ∧ h ∈ ks ∧ (h, z) ∈ us := by
  obtain ⟨i, hi, e⟩ := List.getElem_of_mem h
  cases i with
  | zero =>
    have := t.root.1
    rw [List.getElem?_eq_getElem hi, e] at this
    exact absurd (Option.some.inj this) n
  | succ i =>
    obtain ⟨a, h1, h2, h3⟩ := t.at_ i z (by rw [← e]; exact List.getElem?_eq_getElem hi)
    exact ⟨a, h1, List.mem_of_mem_take h2, h3⟩
/-- what a tree holds at z: None, or the machine ahead -/
theorem TreeK.cases_ {us : List (Int × Int)} {y : Int} {kvs : List (Key × V)} {ks : List Int} (t : TreeK us y kvs ks) (z : Int) :
    ((z = y ∨ z ∉ ks) ∧ (valV kvs (Sum.inl z)).getD .non = .non) ∨ (z ≠ y ∧ z ∈ ks ∧ ∃ h, valV kvs (Sum.inl z) = some (.int h) ∧ h ∈ ks ∧ (h, z) ∈ us) := by
  rcases Classical.em (z = y) with e | e
  · subst e
    exact .inl ⟨.inl rfl, by rw [t.root.2]; rfl⟩
  · rcases Classical.em (z ∈ ks) with c | c
    · exact .inr ⟨e, c, t.in_ c e⟩
    · exact .inl ⟨.inr c, by rw [t.no c]; rfl⟩
/-- the wires that a tree takes -/
def tkN (kvs : List (Key × V)) (n : Nat) : List (Int × Int) := (List.range n).filterMap fun (x : Nat) => match valV kvs (Sum.inl (x : Int)) with | some (.int h) => some (h, (x : Int)) | _ => none
theorem tkN_int {kvs : List (Key × V)} {n : Nat} {h : Int} (e : valV kvs (Sum.inl (n : Int)) = some (.int h)) : tkN kvs (n + 1) = tkN kvs n ++ [(h, (n : Int))] := by
  unfold tkN
  rw [List.range_succ, List.filterMap_append, List.filterMap_cons, e]; rfl
theorem tkN_non {kvs : List (Key × V)} {n : Nat} (e : (valV kvs (Sum.inl (n : Int))).getD .non = .non) : tkN kvs (n + 1) = tkN kvs n := by
  unfold tkN
  rw [List.range_succ, List.filterMap_append, List.filterMap_cons]
  cases c : valV kvs (Sum.inl (n : Int)) with
  | none => simp
  | some v =>
    rw [c] at e
    have e : v = .non := e
    subst e
    simp
theorem tkN_mem {kvs : List (Key × V)} {n : Nat} {u : Int × Int} : u ∈ tkN kvs n ↔ ∃ x : Nat, x < n ∧ u.2 = (x : Int) ∧ valV kvs (Sum.inl (x : Int)) = some (.int u.1) := by
  unfold tkN
  rw [List.mem_filterMap]
  constructor
  · rintro ⟨x, hx, e⟩
    refine ⟨x, List.mem_range.mp hx, ?_⟩
    split at e
    · rename_i h c
      cases e
      exact ⟨rfl, c⟩
    · cases e
  · rintro ⟨x, hx, e1, e2⟩
    refine ⟨x, List.mem_range.mpr hx, ?_⟩
    rw [e2, ← e1]
theorem tkN_len (kvs : List (Key × V)) (n : Nat) : (tkN kvs n).length ≤ n := by
  unfold tkN
  have := List.length_filterMap_le (fun (x : Nat) => match valV kvs (Sum.inl (x : Int)) with | some (.int h) => some (h, (x : Int)) | _ => none) (List.range n)
  rw [List.length_range] at this
  exact this
theorem TreeK.sub {us : List (Int × Int)} {y : Int} {kvs : List (Key × V)} {ks : List Int} (t : TreeK us y kvs ks) {n : Nat} : ∀ u ∈ tkN kvs n, u ∈ us := fun u hu => by
  obtain ⟨x, _, e1, e2⟩ := tkN_mem.mp hu
  rcases t.cases_ (x : Int) with ⟨_, c⟩ | ⟨_, _, h, h1, _, h3⟩
  · rw [e2] at c; cases c
  · rw [e2] at h1
    cases h1
    rw [← e1] at h3
    exact h3
/-- whoever is in a tree is reached by the wires that it takes -/
theorem TreeK.back {us : List (Int × Int)} {y : Int} {kvs : List (Key × V)} {ks : List Int} (t : TreeK us y kvs ks) {n : Nat} (hn : ∀ z ∈ ks, 0 ≤ z ∧ z < n) : ∀ z ∈ ks, Reach (tkN kvs n) y z := by
  have go : ∀ (k i : Nat) (z : Int), i < k → ks[i]? = some z → Reach (tkN kvs n) y z := by
    intro k
    induction k with
    | zero => intro i z h; omega
    | succ k ih =>
      intro i z hi e
      cases i with
      | zero =>
        rw [t.root.1] at e
        cases e
        exact .refl _
      | succ i =>
        obtain ⟨h, h1, h2, _⟩ := t.at_ i z e
        obtain ⟨j, hj, ej⟩ := List.getElem_of_mem h2
        rw [List.length_take] at hj
        rw [List.getElem_take] at ej
        have hz := hn z (List.mem_of_getElem? e)
        refine .step (ih j h (by omega) (by rw [← ej]; exact List.getElem?_eq_getElem (by omega))) (tkN_mem.mpr ⟨z.toNat, by omega, by show z = _; omega, ?_⟩)
        rw [show ((z.toNat : Nat) : Int) = z from by omega]
        exact h1
  intro z hz
  obtain ⟨i, hi, e⟩ := List.getElem_of_mem hz
  exact go (i + 1) i z (by omega) (by rw [← e]; exact List.getElem?_eq_getElem hi)
theorem reach_mono {us vs : List (Int × Int)} (h : ∀ u ∈ us, u ∈ vs) {y z : Int} (r : Reach us y z) : Reach vs y z := by
  induction r with
  | refl => exact .refl _
  | step _ e ih => exact .step ih (h _ e)
end Mine
/-! ## TY -/
open PySem L2 GA
namespace Mine
/-! ### what any thing must be to be a tree -/
/-- the wires that a thing takes -/
def tkT (ts : List Tg) (n : Nat) : List (Int × Int) := (List.range n).filterMap fun (x : Nat) => match ts[x]? with | some (.int h) => some (h, (x : Int)) | _ => none
theorem tkT_int {ts : List Tg} {n : Nat} {h : Int} (e : ts[n]? = some (.int h)) : tkT ts (n + 1) = tkT ts n ++ [(h, (n : Int))] := by
  unfold tkT
  rw [List.range_succ, List.filterMap_append, List.filterMap_cons, e]; rfl
theorem tkT_non {ts : List Tg} {n : Nat} (e : ts[n]? = some .non) : tkT ts (n + 1) = tkT ts n := by
  unfold tkT
  rw [List.range_succ, List.filterMap_append, List.filterMap_cons, e]; simp
theorem tkT_mem {ts : List Tg} {n : Nat} {u : Int × Int} : u ∈ tkT ts n ↔ ∃ x : Nat, x < n ∧ u.2 = (x : Int) ∧ ts[x]? = some (.int u.1) := by
  unfold tkT
  rw [List.mem_filterMap]
  constructor
  · rintro ⟨x, hx, e⟩
    refine ⟨x, List.mem_range.mp hx, ?_⟩
    split at e
    · rename_i h c
      cases e
      exact ⟨rfl, c⟩
    · cases e
  · rintro ⟨x, hx, e1, e2⟩
    refine ⟨x, List.mem_range.mpr hx, ?_⟩
    rw [e2, ← e1]
theorem tkT_len (ts : List Tg) (n : Nat) : (tkT ts n).length ≤ n := by
  unfold tkT
  have := List.length_filterMap_le (fun (x : Nat) => match ts[x]? with | some (.int h) => some (h, (x : Int)) | _ => none) (List.range n)
  rw [List.length_range] at this
  exact this
/-- what may stand at a place -/
def OkAt (G : List (Int × Int)) (w0 : Int) (hs : List Int) (i : Nat) (t : Tg) : Prop := (t = .non ∧ ((i : Int) = w0 ∨ (i : Int) ∉ hs)) ∨ ∃ y, t = .int y ∧ (i : Int) ≠ w0 ∧ (i : Int) ∈ hs ∧ (y, (i : Int)) ∈ G
def TrOk (G : List (Int × Int)) (w0 : Int) (hs : List Int) (n : Nat) (g : Tg) : Prop := ∃ ts, g = .tup ts ∧ ts.length = n ∧ (∀ (i : Nat) t, ts[i]? = some t → OkAt G w0 hs i t) ∧ ∀ z ∈ hs, Reach (tkT ts n) w0 z
theorem trOk_tup {G : List (Int × Int)} {w0 : Int} {hs : List Int} {n : Nat} {ts : List Tg} : TrOk G w0 hs n (.tup ts) ↔ ts.length = n ∧ (∀ (i : Nat) t, ts[i]? = some t → OkAt G w0 hs i t) ∧ ∀ z ∈ hs, Reach (tkT ts n) w0 z := by
  constructor
  · rintro ⟨_, e, h⟩
    cases e
    exact h
  · intro h
    exact ⟨ts, rfl, h⟩
theorem reach_into {us : List (Int × Int)} {y z : Int} (r : Reach us y z) (n : z ≠ y) : ∃ h, (h, z) ∈ us := by
  cases r with
  | refl => exact absurd rfl n
  | step _ e => exact ⟨_, e⟩
theorem trOk_prog {G : List (Int × Int)} {w0 : Int} {hs : List Int} {n : Nat} {ts : List Tg} (hG : ∀ u ∈ G, (0 ≤ u.1 ∧ u.1 < (n : Int)) ∧ u.2 ∈ hs) (w0r : 0 ≤ w0 ∧ w0 < n) (l : ts.length = n) :
    TrOk G w0 hs n (.tup ts) ↔ ts[w0.toNat]? = some .non ∧ (∀ t ∈ ts, t = .non ∨ blw n t = true) ∧ (∀ u ∈ tkT ts n, u ∈ G) ∧ ∀ z ∈ hs, Reach (tkT ts n) w0 z := by
  have ew : ((w0.toNat : Nat) : Int) = w0 := by omega
  rw [trOk_tup]
  constructor
  · rintro ⟨_, ok, re⟩
    refine ⟨?_, fun t ht => ?_, fun u hu => ?_, re⟩
    · obtain ⟨t, ht⟩ : ∃ t, ts[w0.toNat]? = some t := ⟨_, List.getElem?_eq_getElem (by omega)⟩
      rcases ok _ _ ht with ⟨rfl, _⟩ | ⟨_, _, c, _⟩
      · exact ht
      · exact absurd ew c
    · obtain ⟨i, hi, e⟩ := List.getElem_of_mem ht
      rcases ok i t (by rw [← e]; exact List.getElem?_eq_getElem hi) with ⟨rfl, _⟩ | ⟨y, rfl, _, _, c⟩
      · exact .inl rfl
      · have := (hG _ c).1
        refine .inr ?_
        simp only [blw]
        rw [decide_eq_true this.1, decide_eq_true this.2]; rfl
    · obtain ⟨x, hx, e1, e2⟩ := tkT_mem.mp hu
      rcases ok x _ e2 with ⟨c, _⟩ | ⟨y, c, _, _, d⟩
      · cases c
      · cases c
        rw [← e1] at d
        exact d
  · rintro ⟨rt, be, su, re⟩
    refine ⟨l, fun i t ht => ?_, re⟩
    have hi := (List.getElem?_eq_some_iff.mp ht).1
    rcases be t (List.mem_of_getElem? ht) with rfl | c
    · refine .inl ⟨rfl, ?_⟩
      rcases Classical.em ((i : Int) = w0) with e | e
      · exact .inl e
      · refine .inr fun h => ?_
        obtain ⟨y, hy⟩ := reach_into (re _ h) e
        obtain ⟨x, _, e1, e2⟩ := tkT_mem.mp hy
        have : x = i := by
          have e1 : (i : Int) = x := e1
          omega
        subst this
        rw [ht] at e2
        cases e2
    · obtain ⟨y, rfl⟩ := blw_int c
      have g := su (y, (i : Int)) (tkT_mem.mpr ⟨i, by omega, rfl, ht⟩)
      refine .inr ⟨y, rfl, fun e => ?_, (hG _ g).2, g⟩
      have : w0.toNat = i := by omega
      rw [this, ht] at rt
      cases rt
/-! ### the law's rounds of the home -/
/-- who is found in a round, up to a machine -/
def esT (ts : List Tg) (hs : List Int) (n : Nat) : List Int := (List.range n).filterMap fun (x : Nat) => if (x : Int) ∈ hs then none else match ts[x]? with | some (.int h) => if h ∈ hs then some (x : Int) else none | _ => none
theorem esT_mem {ts : List Tg} {hs : List Int} {n : Nat} {z : Int} : z ∈ esT ts hs n ↔ ∃ x : Nat, x < n ∧ z = (x : Int) ∧ z ∉ hs ∧ ∃ h, ts[x]? = some (.int h) ∧ h ∈ hs := by
  unfold esT
  rw [List.mem_filterMap]
  constructor
  · rintro ⟨x, hx, e⟩
    by_cases c : (x : Int) ∈ hs
    · rw [if_pos c] at e; cases e
    · rw [if_neg c] at e
      split at e
      · rename_i h q
        by_cases d : h ∈ hs
        · rw [if_pos d] at e
          cases e
          exact ⟨x, List.mem_range.mp hx, rfl, c, h, q, d⟩
        · rw [if_neg d] at e; cases e
      · cases e
  · rintro ⟨x, hx, rfl, c, h, q, d⟩
    exact ⟨x, List.mem_range.mpr hx, by rw [if_neg c, q]; show (if h ∈ hs then _ else _) = _; rw [if_pos d]⟩
theorem esT_in {ts : List Tg} {hs : List Int} {n : Nat} {h : Int} (c : (n : Int) ∉ hs) (e : ts[n]? = some (.int h)) (d : h ∈ hs) : esT ts hs (n + 1) = esT ts hs n ++ [(n : Int)] := by
  unfold esT
  rw [List.range_succ, List.filterMap_append, List.filterMap_cons, if_neg c, e]
  simp only [if_pos d, List.filterMap_nil]
theorem esT_skip {ts : List Tg} {hs : List Int} {n : Nat} (c : (n : Int) ∉ hs → ∀ h, ts[n]? = some (.int h) → h ∈ hs → False) : esT ts hs (n + 1) = esT ts hs n := by
  unfold esT
  rw [List.range_succ, List.filterMap_append, List.filterMap_cons]
  by_cases q : (n : Int) ∈ hs
  · rw [if_pos q]; simp
  · rw [if_neg q]
    split
    · simp
    · rename_i b e
      split at e
      · rename_i h r
        by_cases d : h ∈ hs
        · exact (c q h r d).elim
        · rw [if_neg d] at e; cases e
      · cases e
theorem esT_nd (ts : List Tg) (hs : List Int) : ∀ n, (esT ts hs n).Nodup := by
  intro n
  induction n with
  | zero => exact List.nodup_nil
  | succ n ih =>
    rcases Classical.em ((n : Int) ∉ hs ∧ ∃ h, ts[n]? = some (.int h) ∧ h ∈ hs) with ⟨c, h, e, d⟩ | c
    · rw [esT_in c e d]
      refine List.nodup_append.mpr ⟨ih, by simp, fun a ha b hb e => ?_⟩
      obtain ⟨x, hx, rfl, _⟩ := esT_mem.mp ha
      have q : b = (n : Int) := by simpa using hb
      omega
    · rw [esT_skip fun a h e d => c ⟨a, h, e, d⟩]
      exact ih
theorem esT_len (ts : List Tg) (hs : List Int) (n : Nat) : (esT ts hs n).length ≤ n := by
  unfold esT
  have := List.length_filterMap_le (fun (x : Nat) => if (x : Int) ∈ hs then none else match ts[x]? with | some (.int h) => if h ∈ hs then some (x : Int) else none | _ => none) (List.range n)
  rw [List.length_range] at this
  exact this
/-- the home behind so many rounds -/
def hmT (ts : List Tg) (w0 : Int) (n : Nat) : Nat → List Int
  | 0 => [w0]
  | i + 1 => hmT ts w0 n i ++ esT ts (hmT ts w0 n i) n
structure HmK (ts : List Tg) (w0 : Int) (n i : Nat) (hs : List Int) : Prop where
  nd : hs.Nodup
  rng : ∀ z ∈ hs, 0 ≤ z ∧ z < n
  sound : ∀ z ∈ hs, Reach (tkT ts n) w0 z
  root : w0 ∈ hs
  more : i + 1 ≤ hs.length ∨ ∀ u ∈ tkT ts n, u.1 ∈ hs → u.2 ∈ hs
theorem hmK (ts : List Tg) {w0 : Int} {n : Nat} (w0r : 0 ≤ w0 ∧ w0 < n) : ∀ i, HmK ts w0 n i (hmT ts w0 n i) := by
  intro i
  induction i with
  | zero => exact ⟨by simp [hmT], fun z hz => by rw [show z = w0 from by simpa [hmT] using hz]; exact w0r, fun z hz => by rw [show z = w0 from by simpa [hmT] using hz]; exact .refl _, by simp [hmT], .inl (by simp [hmT])⟩
  | succ i ih =>
    show HmK ts w0 n (i + 1) (hmT ts w0 n i ++ esT ts (hmT ts w0 n i) n)
    generalize hmT ts w0 n i = hs at ih ⊢
    refine ⟨List.nodup_append.mpr ⟨ih.nd, esT_nd ts hs n, fun x hx y hy e => ?_⟩, fun z hz => ?_, fun z hz => ?_, List.mem_append_left _ ih.root, ?_⟩
    · obtain ⟨_, _, _, c, _⟩ := esT_mem.mp hy
      rw [← e] at c
      exact c hx
    · rcases List.mem_append.mp hz with c | c
      · exact ih.rng z c
      · obtain ⟨x, hx, rfl, _⟩ := esT_mem.mp c
        omega
    · rcases List.mem_append.mp hz with c | c
      · exact ih.sound z c
      · obtain ⟨x, hx, rfl, _, h, e, d⟩ := esT_mem.mp c
        exact .step (ih.sound h d) (tkT_mem.mpr ⟨x, hx, rfl, e⟩)
    · have shut : esT ts hs n = [] → ∀ u ∈ tkT ts n, u.1 ∈ hs → u.2 ∈ hs := fun e u hu h1 => by
        obtain ⟨x, hx, e1, e2⟩ := tkT_mem.mp hu
        refine Classical.byContradiction fun c => ?_
        have : u.2 ∈ esT ts hs n := esT_mem.mpr ⟨x, hx, e1, c, u.1, e2, h1⟩
        rw [e] at this
        cases this
      cases e : esT ts hs n with
      | nil =>
        rw [List.append_nil]
        exact .inr (shut e)
      | cons x xs =>
        rcases ih.more with c | c
        · refine .inl ?_
          rw [List.length_append, List.length_cons]
          omega
        · exfalso
          have hx : x ∈ esT ts hs n := by rw [e]; simp
          obtain ⟨y, hy, rfl, d, h, e2, h1⟩ := esT_mem.mp hx
          exact d (c (h, (y : Int)) (tkT_mem.mpr ⟨y, hy, rfl, e2⟩) h1)
theorem hm_len (ts : List Tg) {w0 : Int} {n : Nat} (w0r : 0 ≤ w0 ∧ w0 < n) (i : Nat) : (hmT ts w0 n i).length ≤ n := by
  have h := hmK ts w0r i
  have l := List.Nodup.length_le_of_subset (l₂ := (List.range n).map fun (x : Nat) => (x : Int)) h.nd fun z hz => by
    have := h.rng z hz
    exact List.mem_map.mpr ⟨z.toNat, List.mem_range.mpr (by omega), by omega⟩
  rw [List.length_map, List.length_range] at l
  exact l
theorem hm_iff (ts : List Tg) {w0 : Int} {n : Nat} (w0r : 0 ≤ w0 ∧ w0 < n) {z : Int} : z ∈ hmT ts w0 n n ↔ Reach (tkT ts n) w0 z := by
  have h := hmK ts w0r n
  have l := hm_len ts w0r n
  refine ⟨h.sound z, fun r => ?_⟩
  have shut : ∀ u ∈ tkT ts n, u.1 ∈ hmT ts w0 n n → u.2 ∈ hmT ts w0 n n := by
    rcases h.more with c | c
    · omega
    · exact c
  induction r with
  | refl => exact h.root
  | step _ e ih => exact shut _ e ih
/-! ### trees, bars -/
def TrsOk (W : List (Int × Int)) (ws : List Int) (ds : List (List Int)) (g : Tg) : Prop := ∃ ts, g = .tup ts ∧ ts.length = ws.length ∧ ∀ (p : Nat) (t : Tg) (w0 : Int), ts[p]? = some t → ws[p]? = some w0 → TrOk (growL W ds p) w0 (hold ds p) ds.length t
def BarOk (W : List (Int × Int)) (ws : List Int) (ds : List (List Int)) (g : Tg) : Prop := ∃ (p : Nat) (lot : List Int), g = .tup [.int (p : Nat), .tup (lot.map .int)] ∧ p < ws.length ∧ lot ≠ [] ∧ lot.Pairwise (· < ·) ∧ (∀ z ∈ lot, z ∈ hold ds p) ∧ (∀ w, ws[p]? = some w → w ∉ lot) ∧ ∀ u ∈ growL W ds p, u.2 ∈ lot → u.1 ∈ lot
end Mine
/-! ## K61 -/
section
open PySem L2 GA
local macro_rules
  | `(tactic| walk_at "w") => `(tactic| first
    | ((with_reducible refine' GA.w_var ?e ?_); (case e => exact rfl))
    | (with_reducible refine' GA.w_c ?_)
    | (with_reducible refine' GA.w_cons ?_)
    | (with_reducible refine' GA.w_nil ?_)
    | (with_reducible refine' GA.w_op ?_)
    | (with_reducible refine' GA.r_I0 ?_)
    | (with_reducible refine' GA.w_bl ?_)
    | (with_reducible refine' GA.w_seq ?_)
    | (with_reducible refine' GA.w_set ?_)
    | (with_reducible refine' GA.w_ret ?_)
    | (with_reducible refine' GA.w_ifS ?_)
    | (with_reducible refine' GA.w_test ?_)
    | (with_reducible refine' GA.w_tB ?_)
    | (with_reducible refine' GA.w_not ?_)
    | (with_reducible refine' GA.w_and ?_)
    | (with_reducible refine' GA.w_or ?_)
    | (with_reducible refine' GA.w_andV ?_)
    | (with_reducible refine' GA.w_orV ?_)
    | (with_reducible refine' GA.w_notV ?_)
    | (with_reducible refine' GA.w_blc ?_)
    | (with_reducible refine' GA.w_if ?_)
    | (with_reducible refine' GA.w_CB ?_)
    | (with_reducible refine' GA.w_call ?_)
    | (with_reducible refine' GA.w_tupN ?_)
    | (with_reducible refine' GA.w_lstN ?_)
    | (with_reducible refine' GA.w_chain ?_)
    | (with_reducible refine' GA.w_drop ?_)
    | (with_reducible refine' GA.w_next ?_)
    | (with_reducible refine' GA.w_break ?_)
    | (with_reducible refine' GA.w_un ?_)
    | (with_reducible refine' GA.r_U ?_)
    | (with_reducible refine' GA.r_eqI ?_)
    | (with_reducible refine' GA.r_neI ?_)
    | (with_reducible refine' GA.r_eqB ?_)
    | (with_reducible refine' GA.r_neB ?_)
    | (with_reducible refine' GA.w_fld ?_)
    | (with_reducible refine' GA.w_sfld ?_)
    | (with_reducible refine' GA.w_sl ?_)
    | (with_reducible refine' GA.w_part ?_)
    | (with_reducible refine' GA.w_noPart ?_)
    | (with_reducible refine' GA.w_inti ?_)
    | (with_reducible refine' GA.w_retN ?_)
    | (with_reducible refine' GA.w_gsub ?_)
    | (with_reducible refine' GA.w_gname ?_)
    | (with_reducible refine' L2.iteT ?_)
    | (with_reducible refine' L2.iteF ?_)
    | (with_reducible refine' GA.w_nt ?_)
    | (with_reducible refine' GA.w_nf ?_)
    | (with_reducible refine' GA.w_isN ?_)
    | (with_reducible refine' GA.w_notN ?_)
    | (with_reducible refine' GA.w_yes ?_)
    | (with_reducible refine' GA.w_lc ?_)
    | (with_reducible refine' GA.w_lc2 ?_)
    | (with_reducible refine' GA.w_iseq ?_)
    | (with_reducible refine' GA.w_make ?_)
    | (with_reducible refine' GA.w_for ?_)
    | (with_reducible refine' GA.w_rng1 ?_)
    | (with_reducible refine' GA.w_rng2 ?_)
    | (with_reducible refine' GA.w_itup ?_)
    | (with_reducible refine' GA.w_ilist ?_)
    | (with_reducible refine' GA.w_ienum ?_)
    | (with_reducible refine' GA.w_BM ?_)
    | (with_reducible refine' GA.w_BM0 ?_)
    | (with_reducible refine' GA.w_izip ?_)
    | (with_reducible refine' GA.w_asg ?_))
  | `(tactic| walk_at "wm") => `(tactic| first
    | ((with_reducible refine' GA.w_var ?e ?_); (case e => exact rfl))
    | (with_reducible refine' GA.w_c ?_)
    | (with_reducible refine' GA.w_cons ?_)
    | (with_reducible refine' GA.w_nil ?_)
    | (with_reducible refine' GA.w_op ?_)
    | (with_reducible refine' GA.r_I0 ?_)
    | (with_reducible refine' GA.w_bl ?_)
    | (with_reducible refine' GA.w_set ?_)
    | (with_reducible refine' GA.w_ret ?_)
    | (with_reducible refine' GA.w_ifS ?_)
    | (with_reducible refine' GA.w_test ?_)
    | (with_reducible refine' GA.w_tB ?_)
    | (with_reducible refine' GA.w_not ?_)
    | (with_reducible refine' GA.w_and ?_)
    | (with_reducible refine' GA.w_or ?_)
    | (with_reducible refine' GA.w_andV ?_)
    | (with_reducible refine' GA.w_orV ?_)
    | (with_reducible refine' GA.w_notV ?_)
    | (with_reducible refine' GA.w_blc ?_)
    | (with_reducible refine' GA.w_if ?_)
    | (with_reducible refine' GA.w_CB ?_)
    | (with_reducible refine' GA.w_call ?_)
    | (with_reducible refine' GA.w_tupN ?_)
    | (with_reducible refine' GA.w_lstN ?_)
    | (with_reducible refine' GA.w_chain ?_)
    | (with_reducible refine' GA.w_drop ?_)
    | (with_reducible refine' GA.w_next ?_)
    | (with_reducible refine' GA.w_break ?_)
    | (with_reducible refine' GA.w_un ?_)
    | (with_reducible refine' GA.r_U ?_)
    | (with_reducible refine' GA.r_eqI ?_)
    | (with_reducible refine' GA.r_neI ?_)
    | (with_reducible refine' GA.r_eqB ?_)
    | (with_reducible refine' GA.r_neB ?_)
    | (with_reducible refine' GA.w_fld ?_)
    | (with_reducible refine' GA.w_sfld ?_)
    | (with_reducible refine' GA.w_sl ?_)
    | (with_reducible refine' GA.w_part ?_)
    | (with_reducible refine' GA.w_noPart ?_)
    | (with_reducible refine' GA.w_inti ?_)
    | (with_reducible refine' GA.w_retN ?_)
    | (with_reducible refine' GA.w_gsub ?_)
    | (with_reducible refine' GA.w_gname ?_)
    | (with_reducible refine' L2.iteT ?_)
    | (with_reducible refine' L2.iteF ?_)
    | (with_reducible refine' GA.w_nt ?_)
    | (with_reducible refine' GA.w_nf ?_)
    | (with_reducible refine' GA.w_isN ?_)
    | (with_reducible refine' GA.w_notN ?_)
    | (with_reducible refine' GA.w_yes ?_)
    | (with_reducible refine' GA.w_lc ?_)
    | (with_reducible refine' GA.w_lc2 ?_)
    | (with_reducible refine' GA.w_iseq ?_)
    | (with_reducible refine' GA.w_make ?_)
    | (with_reducible refine' GA.w_for ?_)
    | (with_reducible refine' GA.w_rng1 ?_)
    | (with_reducible refine' GA.w_rng2 ?_)
    | (with_reducible refine' GA.w_itup ?_)
    | (with_reducible refine' GA.w_ilist ?_)
    | (with_reducible refine' GA.w_ienum ?_)
    | (with_reducible refine' GA.w_BM ?_)
    | (with_reducible refine' GA.w_BM0 ?_)
    | (with_reducible refine' GA.w_izip ?_)
    | (with_reducible refine' GA.w_asg ?_))
  | `(tactic| walk_at "ws") => `(tactic| repeat (walk_at "w"))
  | `(tactic| walk_at "wn") => `(tactic| repeat (walk_at "wm"))


namespace Mine
section
variable {P : Program} {w : World} {K : PySem.W.Frag} {mg : Str → Option Value} {base : Heap} {a : Ads}

/-! ### lists of bools; ascending ones; lots of any kind -/
/-- the turns of a comprehension over bools, told by what they say together -/
def BlA (H' : Hp) (D : Addr) (i : Nat) (P : Nat → Prop) : Prop := ∃ cs : List Bool, H' D = some (.lst (cs.map V.bl)) ∧ cs.length ≤ i ∧ (cs.all id = true ↔ ∀ j, j < i → P j)
theorem BlA.nil {H1 : Hp} {D : Addr} {P : Nat → Prop} : BlA (upd H1 D (.lst [])) D 0 P := ⟨[], upd_same, Nat.le_refl _, ⟨fun _ j h => absurd h (Nat.not_lt_zero _), fun _ => rfl⟩⟩
theorem lt_succ_all {i : Nat} {P : Nat → Prop} : (∀ j, j < i + 1 → P j) ↔ (∀ j, j < i → P j) ∧ P i := by
  constructor
  · intro h
    exact ⟨fun j hj => h j (by omega), h i (by omega)⟩
  · rintro ⟨h1, h2⟩ j hj
    rcases Nat.lt_or_ge j i with c | c
    · exact h1 j c
    · obtain rfl : j = i := by omega
      exact h2
theorem BlA.app {H' : Hp} {D : Addr} {i : Nat} {P : Nat → Prop} {c : Bool} (h : BlA H' D i P) (e : c = true ↔ P i) (hi : i ≤ 1000) : ∃ acc, H' D = some (.lst acc) ∧ acc.length < sizeLine ∧ BlA (upd H' D (.lst (acc ++ [V.bl c]))) D (i + 1) P := by
  obtain ⟨cs, h1, h2, h3⟩ := h
  refine ⟨cs.map V.bl, h1, Nat.lt_of_le_of_lt (by rw [List.length_map]; omega : (cs.map V.bl).length ≤ 1000) (by decide), cs ++ [c], by rw [upd_same, List.map_append]; rfl, by rw [List.length_append, List.length_singleton]; omega, ?_⟩
  rw [List.all_append, Bool.and_eq_true, h3, lt_succ_all, ← e]
  simp
theorem BlA.skip {H' : Hp} {D : Addr} {i : Nat} {P : Nat → Prop} (h : BlA H' D i P) (e : P i) : BlA H' D (i + 1) P := by
  obtain ⟨cs, h1, h2, h3⟩ := h
  refine ⟨cs, h1, by omega, ?_⟩
  rw [h3, lt_succ_all]
  exact ⟨fun q => ⟨q, e⟩, fun q => q.1⟩
theorem BlA.n {H' H'' : Hp} {D : Addr} {i : Nat} {P : Nat → Prop} (h : BlA H' D i P) (g : G none H' H'') : BlA H'' D i P := let ⟨cs, h1, h2, h3⟩ := h; ⟨cs, g.all _ _ h1, h2, h3⟩
theorem BlA.fin {H' : Hp} {D : Addr} {i : Nat} {P : Nat → Prop} (h : BlA H' D i P) : ∃ cs : List Bool, SqL K H' D (cs.map V.bl) ∧ (cs.all id = true ↔ ∀ j, j < i → P j) := let ⟨cs, h1, _, h3⟩ := h; ⟨cs, SqL.of h1, h3⟩
def BlE (H' : Hp) (D : Addr) (i : Nat) (P : Nat → Prop) : Prop := ∃ cs : List Bool, H' D = some (.lst (cs.map V.bl)) ∧ cs.length ≤ i ∧ (cs.any id = false ↔ ∀ j, j < i → ¬ P j)
theorem BlE.nil {H1 : Hp} {D : Addr} {P : Nat → Prop} : BlE (upd H1 D (.lst [])) D 0 P := ⟨[], upd_same, Nat.le_refl _, ⟨fun _ j h => absurd h (Nat.not_lt_zero _), fun _ => rfl⟩⟩
theorem BlE.app {H' : Hp} {D : Addr} {i : Nat} {P : Nat → Prop} {c : Bool} (h : BlE H' D i P) (e : c = true ↔ P i) (hi : i ≤ 1000) : ∃ acc, H' D = some (.lst acc) ∧ acc.length < sizeLine ∧ BlE (upd H' D (.lst (acc ++ [V.bl c]))) D (i + 1) P := by
  obtain ⟨cs, h1, h2, h3⟩ := h
  refine ⟨cs.map V.bl, h1, Nat.lt_of_le_of_lt (by rw [List.length_map]; omega : (cs.map V.bl).length ≤ 1000) (by decide), cs ++ [c], by rw [upd_same, List.map_append]; rfl, by rw [List.length_append, List.length_singleton]; omega, ?_⟩
  rw [List.any_append, Bool.or_eq_false_iff, h3, lt_succ_all, ← e]
  simp
theorem BlE.n {H' H'' : Hp} {D : Addr} {i : Nat} {P : Nat → Prop} (h : BlE H' D i P) (g : G none H' H'') : BlE H'' D i P := let ⟨cs, h1, h2, h3⟩ := h; ⟨cs, g.all _ _ h1, h2, h3⟩
theorem BlE.fin {H' : Hp} {D : Addr} {i : Nat} {P : Nat → Prop} (h : BlE H' D i P) : ∃ cs : List Bool, SqL K H' D (cs.map V.bl) ∧ (cs.any id = false ↔ ∀ j, j < i → ¬ P j) := let ⟨cs, h1, _, h3⟩ := h; ⟨cs, SqL.of h1, h3⟩
theorem asc_iff : ∀ {ns : List Int}, ns.Pairwise (· < ·) ↔ ∀ j, j < ns.length - 1 → ∀ y z, ns[j]? = some y → ns[j + 1]? = some z → y < z
  | [] => ⟨fun _ j h => absurd h (Nat.not_lt_zero _), fun _ => .nil⟩
  | [x] => ⟨fun _ j h => absurd h (Nat.not_lt_zero _), fun _ => .cons (fun _ h => nomatch h) .nil⟩
  | x :: y :: ns => by
    have ih := asc_iff (ns := y :: ns)
    constructor
    · intro h j _ u v hu hv
      exact asc_get h hu hv
    · intro h
      have h0 : x < y := h 0 (by simp) x y rfl rfl
      have t : (y :: ns).Pairwise (· < ·) := ih.mpr fun j hj u v hu hv => h (j + 1) (by simp at hj ⊢; omega) u v hu hv
      refine .cons (fun z hz => ?_) t
      rcases List.mem_cons.mp hz with e | e
      · rw [e]; exact h0
      · have := List.rel_of_pairwise_cons t e
        omega
theorem cut_nil : cutV ([] : List V) (some 1) none = [] := by
  unfold cutV
  simp
def sa_are_ascending (K : PySem.W.Frag) : Sp := fun vs H Q _ => ∃ (p : Addr) (ns : List Int), vs = [.ref p] ∧ SqT K H p (ns.map V.int) ∧ ns.length ≤ 1000 ∧ ∀ b H', G none H H' → (b = true ↔ ns.Pairwise (· < ·)) → Q (.bl b) H'
theorem oka_are_ascending (T : Txt K mg a) : FnOk P w K mg base CX0 1 a.f_are_ascending a.d_are_ascending P_are_ascending (sa_are_ascending K) := by
  refine T.F_are_ascending.ok sc_are_ascending (fun vs H Q E h => by obtain ⟨p, ns, rfl, _⟩ := h; rfl) (fun cdv A outer s H vs Q E hr h => ?_)
  obtain ⟨p, ns, rfl, hp, hz, k⟩ := h
  refine ⟨_, (pss_one (ps_ret (pe_callB (cr_all rfl) (by rfl) T.n_all (by decide +kernel) (pa_cons (pe_lc (own := [("one", 1), ("other", 2)]) (g := (gTup K 2 (gCons (gName 1) (gCons (gName 2) gNil)))) (tt := tYes) rfl sc_are_ascending.nd (RZ.pi_zipA (by rfl) T.n_zip (pa_cons (pv 0) (pa_cons (pe_slice sl_tupAN (pv 0) (po_some pe_int) po_none) pa_nil))) (blkOk_by (N := N_are_ascending) (sc := defScope s_are_ascending) (by decide +kernel)) (fun _ _ _ _ _ => (pg_tup rfl (pgs_cons (pg_name (i := 1) sc_are_ascending.nd rfl (by first | exact Or.inl rfl | exact Or.inr rfl)) (pgs_cons (pg_name (i := 2) sc_are_ascending.nd rfl (by first | exact Or.inl rfl | exact Or.inr rfl)) pgs_nil)))) (fun _ _ _ _ _ => pts_nil) (fun _ _ _ _ _ => (pe_cmpR op_lt (pv 1) (pv 2) (nomark _)))) pa_nil)))), ?_⟩
  walk_at "ws"
  refine ⟨p, _, rfl, hp, fun q H1 g1 h1 => ?_⟩
  have e1 : cutV (ns.map V.int) (some 1) none = (ns.drop 1).map V.int := by
    cases ns with
    | nil => exact cut_nil
    | cons n ns => rw [List.map_drop]; exact cut_from (((n :: ns) : List Int).map V.int) (k := 0) (by simp)
  rw [e1] at h1
  walk_at "ws"
  refine ⟨p, q, _, _, rfl, .inr ⟨sqT_t (g1 none).tups hp, h1, ?_⟩⟩
  intro D hD
  refine lc_it (walk_zipT (xs := ns.map V.int) (ys := (ns.drop 1).map V.int) rfl) (fun i H' => G none H1 H' ∧ BlA H' D i fun j => ∀ y z, ns[j]? = some y → ns[j + 1]? = some z → y < z) ⟨(G.refl).mut hD (fun _ e => nomatch e), .nil⟩ (fun i H' _ g => ⟨sqT_t ((g1 none).trans g.1).tups hp, sqT_t g.1.tups h1⟩) ?_ ?_
  · rintro i v H2 H3 hi ⟨g2, bl⟩ ⟨t, y, z, rfl, ht, rfl, ey, ez⟩
    have ey : (ns.map V.int)[i]? = some y := ey
    have ez : ((ns.drop 1).map V.int)[i]? = some z := ez
    rw [List.getElem?_map] at ey ez
    obtain ⟨y0, hy0, rfl⟩ := Option.map_eq_some_iff.mp ey
    obtain ⟨z0, hz0, rfl⟩ := Option.map_eq_some_iff.mp ez
    rw [List.getElem?_drop, Nat.add_comm] at hz0
    have gB : G none H2 (upd H2 t (.tup [.int y0, .int z0])) := G.alloc ht
    refine ⟨t, _, rfl, SqT.of upd_same, rfl, ?_⟩
    refine ⟨_, _, rfl, ?_⟩
    walk_at "ws"
    refine ⟨_, _, rfl, ?_⟩
    walk_at "ws"
    refine ⟨rfl, rfl, ?_⟩
    generalize upd H2 t (.tup [.int y0, .int z0]) = H3 at gB ⊢
    walk_at "ws"
    rw [List.length_map, List.length_map] at hi
    obtain ⟨acc, q1, q2, q3⟩ := (bl.n gB).app (c := decide (y0 < z0)) (by
      rw [decide_eq_true_iff]
      exact ⟨fun h y z e1 e2 => by rw [hy0] at e1; rw [hz0] at e2; cases e1; cases e2; exact h, fun h => h _ _ hy0 hz0⟩) (by omega)
    exact ⟨acc, q1, q2, (g2.trans gB).mut hD (fun _ e => nomatch e), q3⟩
  rintro H2 ⟨g2, bl⟩
  obtain ⟨cs, c1, c2⟩ := bl.fin (K := K)
  walk_at "ws"
  refine ⟨D, cs, rfl, c1, ?_⟩
  refine k _ _ ((g1 none).trans g2) ?_
  rw [c2, asc_iff]
  have e2 : min (ns.map V.int).length ((ns.drop 1).map V.int).length = ns.length - 1 := by
    rw [List.length_map, List.length_map, List.length_drop]; omega
  first | rw [e2] | (have e3 := e2; simp only [List.length_map, List.length_drop] at e3 ⊢; rw [e3])
theorem ints_of {C : Addr → Prop} {hd : Addr} {H : Hp} : ∀ {ts : List Tg} {xs : List V}, AbAll C hd H xs ts → (∀ t ∈ ts, ∃ i, t = .int i) → ∃ ns : List Int, ts = ns.map Tg.int ∧ xs = ns.map V.int
  | [], _, h, _ => by cases h; exact ⟨[], rfl, rfl⟩
  | t :: ts, _, h, q => by
    cases h with
    | cons h1 h2 =>
      obtain ⟨i, rfl⟩ := q _ (List.mem_cons_self ..)
      obtain ⟨ns, rfl, rfl⟩ := ints_of h2 fun u hu => q u (List.mem_cons_of_mem _ hu)
      cases h1
      exact ⟨i :: ns, rfl, rfl⟩
theorem ints_inj : ∀ {ns ms : List Int}, ns.map Tg.int = ms.map Tg.int → ns = ms
  | [], [], _ => rfl
  | [], _ :: _, h => nomatch h
  | _ :: _, [], h => nomatch h
  | n :: ns, m :: ms, h => by
    rw [List.map_cons, List.map_cons] at h
    injection h with h1 h2
    cases h1
    rw [ints_inj h2]
def LotOk (b : Int) (t : Tg) : Prop := ∃ ns : List Int, t = .tup (ns.map Tg.int) ∧ (∀ z ∈ ns, 0 ≤ z ∧ z < b) ∧ ns.Pairwise (· < ·)
def sa_is_lot (C : Addr → Prop) : Sp := fun vs H Q _ => ∃ (b : Int) (hd : Addr) (v : V) (t : Tg), vs = [.int b, v] ∧ Ab C hd H v t ∧ (∀ ts, t = .tup ts → ts.length ≤ 1000) ∧ ∀ c H', G none H H' → (c = true ↔ LotOk b t) → Q (.bl c) H'
theorem oka_is_lot (T : Txt K mg a) : FnOk P w K mg base CX0 5 a.f_is_lot a.d_is_lot P_is_lot (sa_is_lot (Cs a)) := by
  refine T.F_is_lot.ok sc_is_lot (fun vs H Q E h => by obtain ⟨b, hd, v, t, rfl, _⟩ := h; rfl) (fun cdv A outer s H vs Q E hr h => ?_)
  obtain ⟨b, hd, v, t, rfl, ha, sm, k⟩ := h
  have G_are_below : FnOk P w K mg base CX0 4 a.f_are_below a.d_are_below P_are_below (sa_are_below (Cs a)) := oka_are_below T
  have G_are_ascending : FnOk P w K mg base CX0 1 a.f_are_ascending a.d_are_ascending P_are_ascending (sa_are_ascending K) := oka_are_ascending T
  refine ⟨_, (pss_one (ps_ret (pe_and (pe_callB call_isi (by rfl) T.n_isinstance (by decide +kernel) (pa_cons (pv 1) (pa_cons (pe_bltn (v := .ty "tuple") (u := .type "tuple") rfl T.n_tuple (by decide +kernel) rfl) pa_nil))) (pe_and (pe_call (G_are_below) (hr.mono (by omega)) rfl T.m_are_below T.F_are_below.kp T.b_are_below .nil pass0 (pa_cons (pv 0) (pa_cons (pv 1) pa_nil))) (pe_one (pe_call (G_are_ascending) (hr.mono (by omega)) rfl T.m_are_ascending T.F_are_ascending.kp T.b_are_ascending .nil pass0 (pa_cons (pv 1) pa_nil))))))), ?_⟩
  walk_at "ws"
  refine ab_isi (ikT T) ha (.inr (.inr (.inr rfl))) ?_
  walk_at "ws"
  refine w_ite (fun e => ?_) (fun e => ?_)
  · obtain ⟨p, xs, ts, rfl, rfl, r, al⟩ := tup_of ha e
    have sm := sm ts rfl
    walk_at "ws"
    refine ⟨b, p, hd, xs, ts, rfl, r, al, by omega, fun H1 g1 => ?_⟩
    walk_at "ws"
    refine w_ite (fun e => ?_) (fun e => ?_)
    · have e := List.all_eq_true.mp e
      obtain ⟨ns, rfl, rfl⟩ := ints_of al fun u hu => blw_int (e u hu)
      walk_at "ws"
      refine ⟨p, ns, rfl, .inl (g1.tups _ _ r), by rw [List.length_map] at sm; exact sm, fun c H2 g2 hc => ?_⟩
      refine k c H2 (g1.trans g2) ?_
      rw [hc]
      constructor
      · intro h
        refine ⟨ns, rfl, fun z hz => ?_, h⟩
        have := e (.int z) (List.mem_map.mpr ⟨z, hz, rfl⟩)
        simp only [blw, Bool.and_eq_true, decide_eq_true_eq] at this
        exact this
      · rintro ⟨ms, e1, _, h⟩
        injection e1 with e1
        rw [ints_inj e1]
        exact h
    · refine k false H1 g1 ⟨fun h => Bool.noConfusion h, ?_⟩
      rintro ⟨ms, e1, h, _⟩
      injection e1 with e1
      rw [e1, List.all_eq_false] at e
      obtain ⟨x, hx, n⟩ := e
      obtain ⟨z, hz, rfl⟩ := List.mem_map.mp hx
      have := h z hz
      exact absurd (by simp only [blw, Bool.and_eq_true, decide_eq_true_eq]; exact this) n
  · refine k false H .refl ⟨fun h => Bool.noConfusion h, ?_⟩
    rintro ⟨ms, rfl, _⟩
    cases e

end
end Mine
/-! ## K62 -/


namespace Mine
section
variable {P : Program} {w : World} {K : PySem.W.Frag} {mg : Str → Option Value} {base : Heap} {a : Ads}

/-! ### is_bar of any thing -/
theorem tsz2 {t : Tg} (e : tsz 2 2 t = true) : ∃ t1 t2, t = .tup [t1, t2] := by
  cases t with
  | tup ts =>
    simp only [tsz, Bool.and_eq_true, decide_eq_true_eq] at e
    match ts, e with
    | [t1, t2], _ => exact ⟨t1, t2, rfl⟩
    | [], e => exact absurd e.1 (by simp)
    | [_], e => exact absurd e.1 (by simp)
    | _ :: _ :: _ :: _, e => exact absurd e.2 (by simp only [List.length_cons]; omega)
  | non => exact Bool.noConfusion (show false = true from e)
  | bl _ => exact Bool.noConfusion (show false = true from e)
  | int _ => exact Bool.noConfusion (show false = true from e)
  | str _ => exact Bool.noConfusion (show false = true from e)
  | oth => exact Bool.noConfusion (show false = true from e)
theorem ab_two {C : Addr → Prop} {hd : Addr} {H : Hp} {v : V} {t1 t2 : Tg} (h : Ab C hd H v (.tup [t1, t2])) : ∃ p v1 v2, v = .ref p ∧ Rd H p (.tup [v1, v2]) ∧ Ab C hd H v1 t1 ∧ Ab C hd H v2 t2 := by
  cases h with
  | tup r al =>
    cases al with
    | cons h1 al =>
      cases al with
      | cons h2 al =>
        cases al
        exact ⟨_, _, _, rfl, r, h1, h2⟩
theorem ab_ints {C : Addr → Prop} {hd : Addr} {H : Hp} {v : V} {ns : List Int} (h : Ab C hd H v (.tup (ns.map Tg.int))) : ∃ p, v = .ref p ∧ Rd H p (.tup (ns.map V.int)) := by
  cases h with
  | tup r al =>
    obtain ⟨ms, e1, e2⟩ := ints_of al fun t ht => let ⟨i, _, e⟩ := List.mem_map.mp ht; ⟨i, e.symm⟩
    rw [ints_inj e1, ← e2]
    exact ⟨_, rfl, r⟩
theorem ab_int {C : Addr → Prop} {hd : Addr} {H : Hp} {v : V} {i : Int} (h : Ab C hd H v (.int i)) : v = .int i := by cases h; rfl
theorem bar_two {W : List (Int × Int)} {ws : List Int} {ds : List (List Int)} {t1 t2 : Tg} : BarOk W ws ds (.tup [t1, t2]) → ∃ (p : Nat) (lot : List Int), t1 = .int (p : Nat) ∧ t2 = .tup (lot.map .int) ∧ p < ws.length ∧ lot ≠ [] ∧ lot.Pairwise (· < ·) ∧ (∀ z ∈ lot, z ∈ hold ds p) ∧ (∀ w, ws[p]? = some w → w ∉ lot) ∧ ∀ u ∈ growL W ds p, u.2 ∈ lot → u.1 ∈ lot := by
  rintro ⟨p, lot, e, h⟩
  injection e with e
  injection e with e1 e
  injection e with e2 _
  exact ⟨p, lot, e1, e2, h⟩
theorem bar_three {W : List (Int × Int)} {ws : List Int} {ds : List (List Int)} {p : Nat} {lot : List Int} (h : BarOk W ws ds (.tup [.int (p : Nat), .tup (lot.map .int)])) : p < ws.length ∧ lot ≠ [] ∧ lot.Pairwise (· < ·) ∧ (∀ z ∈ lot, z ∈ hold ds p) ∧ (∀ w, ws[p]? = some w → w ∉ lot) ∧ ∀ u ∈ growL W ds p, u.2 ∈ lot → u.1 ∈ lot := by
  obtain ⟨q, l, e1, e2, z⟩ := bar_two h
  injection e1 with e1
  injection e2 with e2
  have : q = p := by omega
  subst this
  rw [ints_inj e2]
  exact z
def sa_is_bar (K : PySem.W.Frag) (CW CR : Addr) (C : Addr → Prop) : Sp := fun vs H Q _ => ∃ (x r hd : Addr) (v : V) (t : Tg) (m : Int) (W : List (Int × Int)) (ws : List Int) (ds : List (List Int)), vs = [.ref x, .ref r, v] ∧ WebAt K CW H x m W ∧ IsWeb m W ∧ RecAt K CR H r ws ds ∧ IsRec ws ds ∧ ds.length = m.toNat ∧
  Ab C hd H v t ∧ smT t = true ∧ ∀ c H', G none H H' → (c = true ↔ BarOk W ws ds t) → Q (.bl c) H'
theorem oka_is_bar (T : Txt K mg a) : FnOk P w K mg base CX0 6 a.f_is_bar a.d_is_bar P_is_bar (sa_is_bar K a.c_Web a.c_Record (Cs a)) := by
  refine T.F_is_bar.ok sc_is_bar (fun vs H Q E h => by obtain ⟨x, r, hd, v, t, m, W, ws, ds, rfl, _⟩ := h; rfl) (fun cdv A outer s H vs Q E hr h => ?_)
  obtain ⟨x, r, hd, v, t, m, W, ws, ds, rfl, hwb, web, hrr, rec, lm, ha, sm, k⟩ := h
  have m1 := web.lo
  have p30 := rec.p30
  have G_check_machines : FnOk P w K mg base CX0 4 a.f_check_machines a.d_check_machines P_check_machines (sp_check_machines K a.c_Record) := ok_check_machines T
  have G_is_tuple_of : FnOk P w K mg base CX0 1 a.f_is_tuple_of a.d_is_tuple_of P_is_tuple_of (sa_is_tuple_of (Cs a)) := oka_is_tuple_of T
  have G_is_below : FnOk P w K mg base CX0 3 a.f_is_below a.d_is_below P_is_below (sa_is_below (Cs a)) := oka_is_below T
  have G_is_lot : FnOk P w K mg base CX0 5 a.f_is_lot a.d_is_lot P_is_lot (sa_is_lot (Cs a)) := oka_is_lot T
  have G_holders_by_put : FnOk P w K mg base CX0 1 a.f_holders_by_put a.d_holders_by_put P_holders_by_put (sp_holders_by_put K a.c_Record) := ok_holders_by_put T
  have G_growing : FnOk P w K mg base CX0 5 a.f_growing a.d_growing P_growing (sp_growing K a.c_Web a.c_Record) := ok_growing T
  refine ⟨_, (pss_cons (ps_expr (pe_call (G_check_machines) (hr.mono (by omega)) rfl T.m_check_machines T.F_check_machines.kp T.b_check_machines .nil pass0 (pa_cons (pe_fld (pv 0) rfl) (pa_cons (pv 1) pa_nil))))
  (pss_cons (ps_if (pt_not (pt_val (pe_call (G_is_tuple_of) (hr.mono (by omega)) rfl T.m_is_tuple_of T.F_is_tuple_of.kp T.b_is_tuple_of .nil pass0 (pa_cons pe_int (pa_cons pe_int (pa_cons (pv 2) pa_nil))))))
    (pss_one (ps_ret pe_bl))
    pss_nil)
  (pss_cons (ps_asg (pv 2) (pg_tup rfl (pgs_cons (pg_name (i := 3) sc_is_bar.nd rfl (Or.inl rfl)) (pgs_cons (pg_name (i := 4) sc_is_bar.nd rfl (Or.inr rfl)) pgs_nil))))
  (pss_cons (ps_if (L2.PW.pt (pw_or (pt_not (pt_val (pe_call (G_is_below) (hr.mono (by omega)) rfl T.m_is_below T.F_is_below.kp T.b_is_below .nil pass0 (pa_cons (pe_callB call_len_seq (by rfl) T.n_len (by decide +kernel) (pa_cons (pe_fld (pv 1) rfl) pa_nil)) (pa_cons (pv 3) pa_nil))))) (pw_or (pt_not (pt_val (pe_call (G_is_lot) (hr.mono (by omega)) rfl T.m_is_lot T.F_is_lot.kp T.b_is_lot .nil pass0 (pa_cons (pe_fld (pv 0) rfl) (pa_cons (pv 4) pa_nil))))) (pw_or1 (pt_cmpR (op_eqD hr.units) (pv 4) (pe_tupN pa_nil) (nomark _))))))
    (pss_one (ps_ret pe_bl))
    pss_nil)
  (pss_cons (ps_set (i := 5) sc_is_bar.nd rfl (Or.inr rfl) (pe_ix ix_list (pe_call (G_holders_by_put) (hr.mono (by omega)) rfl T.m_holders_by_put T.F_holders_by_put.kp T.b_holders_by_put .nil pass0 (pa_cons (pv 1) pa_nil)) (pv 3) (fun _ _ => rfl)))
  (pss_cons (ps_if (L2.PW.pt (pw_or (pt_cmpR op_in_seq (pe_ix ix_tup (pe_fld (pv 1) rfl) (pv 3) (fun _ _ => rfl)) (pv 4) (by rfl)) (pw_or1 (pt_val (pe_callB (cr_any rfl) (by rfl) T.n_any (by decide +kernel) (pa_cons (pe_lc (own := [("machine", 6)]) (g := (gName 6)) (tt := tYes) rfl sc_is_bar.nd (pi_tup (pv 4)) (blkOk_by (N := N_is_bar) (sc := defScope s_is_bar) (by decide +kernel)) (fun _ _ _ _ _ => (pg_name (i := 6) sc_is_bar.nd rfl (by first | exact Or.inl rfl | exact Or.inr rfl))) (fun _ _ _ _ _ => pts_nil) (fun _ _ _ _ _ => (pe_cmpR (k_op_notIn_seq K) (pv 6) (pv 5) (by rfl)))) pa_nil))))))
    (pss_one (ps_ret pe_bl))
    pss_nil)
  (pss_one (ps_ret (pe_not (pe_callB (cr_any rfl) (by rfl) T.n_any (by decide +kernel) (pa_cons (pe_lc (own := [("y", 7), ("x", 8)]) (g := (gTup K 2 (gCons (gName 7) (gCons (gName 8) gNil)))) (tt := tYes) rfl sc_is_bar.nd (pi_list (pe_call (G_growing) (hr.mono (by omega)) rfl T.m_growing T.F_growing.kp T.b_growing .nil pass0 (pa_cons (pv 0) (pa_cons (pv 1) (pa_cons (pv 3) pa_nil))))) (blkOk_by (N := N_is_bar) (sc := defScope s_is_bar) (by decide +kernel)) (fun _ _ _ _ _ => (pg_tup rfl (pgs_cons (pg_name (i := 7) sc_is_bar.nd rfl (by first | exact Or.inl rfl | exact Or.inr rfl)) (pgs_cons (pg_name (i := 8) sc_is_bar.nd rfl (by first | exact Or.inl rfl | exact Or.inr rfl)) pgs_nil)))) (fun _ _ _ _ _ => pts_nil) (fun _ _ _ _ _ => (pe_and (pe_cmpR (k_op_in_seq K) (pv 8) (pv 4) (by rfl)) (pe_one (pe_cmpR (k_op_notIn_seq K) (pv 7) (pv 4) (by rfl)))))) pa_nil))))))))))), ?_⟩
  walk_at "ws"
  obtain ⟨dx, wa, hx, hwa⟩ := id hwb
  obtain ⟨dr, wp, dp, hrr0, hwp, _⟩ := id hrr
  refine r_fld hx T.cl_Web T.na_Web_machines (wf_m _ _) ?_
  walk_at "ws"
  refine ⟨r, ws, ds, by rw [show m = (ds.length : Int) from by omega]; rfl, hrr, ?_⟩
  walk_at "ws"
  refine ⟨2, 2, hd, v, t, rfl, ha, ?_⟩
  refine ⟨_, rfl, ?_⟩
  refine w_ite (fun e => ?_) (fun e => ?_)
  · walk_at "ws"
    refine k _ _ .refl ⟨fun h => Bool.noConfusion h, ?_⟩
    rintro ⟨p, lot, rfl, _⟩
    cases e
  replace e : tsz 2 2 t = true := by simpa using e
  obtain ⟨t1, t2, rfl⟩ := tsz2 e
  obtain ⟨tp, v1, v2, rfl, rt, ha1, ha2⟩ := ab_two ha
  clear e
  have sm2 := (smT_tup sm).2 t2 (by simp)
  walk_at "ws"
  refine ⟨tp, _, rfl, .inl rt, rfl, ?_⟩
  refine ⟨_, _, rfl, ?_⟩
  walk_at "ws"
  refine ⟨_, _, rfl, ?_⟩
  walk_at "ws"
  refine ⟨rfl, ?_⟩
  walk_at "ws"
  refine r_fld hrr0 T.cl_Record T.na_Record_writers (rf_w _ _) ?_
  refine ⟨wp, _, rfl, .inr hwp, ?_⟩
  walk_at "ws"
  rw [List.length_map]
  refine ⟨_, hd, v1, t1, rfl, ha1, ?_⟩
  refine ⟨_, rfl, ?_⟩
  refine w_ite (fun e => ?_) (fun e => ?_)
  · refine w_iteE rfl ?_
    walk_at "ws"
    refine k _ _ .refl ⟨fun h => Bool.noConfusion h, fun h => ?_⟩
    obtain ⟨p, lot, rfl, _, hp, _⟩ := bar_two h
    have : blw ws.length (.int (p : Nat)) = true := by simp only [blw, Bool.and_eq_true, decide_eq_true_eq]; omega
    rw [this] at e
    cases e
  replace e : blw ws.length t1 = true := by simpa using e
  obtain ⟨i, rfl⟩ := blw_int e
  simp only [blw, Bool.and_eq_true, decide_eq_true_eq] at e
  obtain ⟨p, rfl⟩ : ∃ p : Nat, i = (p : Nat) := ⟨i.toNat, by omega⟩
  have hp : p < ws.length := by omega
  cases ab_int ha1
  walk_at "ws"
  refine r_fld hx T.cl_Web T.na_Web_machines (wf_m _ _) ?_
  walk_at "ws"
  refine ⟨m, hd, v2, t2, rfl, ha2, fun us e => by rw [e] at sm2; exact Nat.le_trans (smT_tup sm2).1 (by decide), fun c H1 g1 hc => ?_⟩
  refine ⟨_, rfl, ?_⟩
  refine w_ite (fun e => ?_) (fun e => ?_)
  · refine w_iteE rfl ?_
    walk_at "ws"
    refine k _ _ g1 ⟨fun h => Bool.noConfusion h, fun h => ?_⟩
    obtain ⟨p', lot, e1, rfl, hp', _, asc, mem, _⟩ := bar_two h
    injection e1 with e1
    have : c = true := hc.mpr ⟨lot, rfl, fun z hz => by
      obtain ⟨y, rfl, hy, _⟩ := hold_mem.mp (mem z hz)
      omega, asc⟩
    rw [this] at e
    cases e
  replace e : c = true := by simpa using e
  obtain ⟨lot, rfl, rng, asc⟩ := hc.mp e
  clear e hc c
  have lz : lot.length ≤ 1000 := by
    have := (smT_tup sm2).1
    rw [List.length_map] at this
    omega
  obtain ⟨t1, rfl, rt1⟩ := ab_ints ha2
  have ht1 : SqT K H t1 (lot.map V.int) := .inl rt1
  walk_at "ws"
  refine ⟨sz (by simp), fun q H2 hq g2 h2 => ?_⟩
  have g02 := g1.trans (g2 none)
  refine ⟨dI lot, dI [], dp_ofI (sqT_t g02.tups ht1), dp_ofI (SqT.of h2), sh_dI _, sh_dI _, ?_⟩
  rw [eqv_dI]
  refine ⟨_, rfl, ?_⟩
  refine w_ite (fun e => ?_) (fun e => ?_)
  · walk_at "ws"
    refine k _ _ g02 ⟨fun h => Bool.noConfusion h, fun h => ?_⟩
    exact absurd (of_decide_eq_true e) (bar_three h).2.1
  have ne : lot ≠ [] := of_decide_eq_false e
  walk_at "ws"
  refine ⟨r, ws, ds, rfl, hrr.n g02, rec, fun R ls H3 hR g3 h3 ll ils => ?_⟩
  have g03 := g02.trans g3
  walk_at "ws"
  obtain ⟨l, hl⟩ : ∃ l, ls[p]? = some l := ⟨_, List.getElem?_eq_getElem (by omega)⟩
  obtain ⟨w0, hw0⟩ : ∃ w0, ws[p]? = some w0 := ⟨_, List.getElem?_eq_getElem hp⟩
  refine r_ixL (SqL.of h3) (v := .ref l) (at_of (j := p) rfl (by rw [List.getElem?_map, hl]; rfl)) ?_
  walk_at "ws"
  refine r_fld (g03.all _ _ hrr0) T.cl_Record T.na_Record_writers (rf_w _ _) ?_
  walk_at "ws"
  refine r_ixT (sqT_t g03.tups hwp) (v := .int w0) (at_of (j := p) rfl (by rw [List.getElem?_map, hw0]; rfl)) ?_
  walk_at "ws"
  have ht13 := sqT_t g03.tups ht1
  refine ⟨t1, _, rfl, .inr ht13, rfl, flat_ints lot, ?_⟩
  rw [inV_ints]
  refine ⟨_, rfl, ?_⟩
  refine w_ite (fun e => ?_) (fun e => ?_)
  · refine w_iteE rfl ?_
    walk_at "ws"
    refine k _ _ g03 ⟨fun h => Bool.noConfusion h, fun h => ?_⟩
    exact absurd (of_decide_eq_true e) ((bar_three h).2.2.2.2.1 w0 hw0)
  have own : w0 ∉ lot := of_decide_eq_false e
  walk_at "ws"
  refine i_tup ht13 ?_
  intro D hD
  refine lc_it (walk_tup (xs := lot.map V.int)) (fun i H' => G none H3 H' ∧ BlE H' D i fun j => ∃ z, lot[j]? = some z ∧ z ∉ hold ds p) ⟨(G.refl).mut hD (fun _ e => nomatch e), .nil⟩ (fun i H' _ g => sqT_t g.1.tups ht13) ?_ ?_
  · rintro i v _ H4 hi ⟨g4, bl⟩ ⟨rfl, hv⟩
    rw [List.length_map] at hi
    rw [List.getElem?_map] at hv
    obtain ⟨z, hz, rfl⟩ := Option.map_eq_some_iff.mp hv
    walk_at "ws"
    refine ⟨rfl, ?_⟩
    walk_at "ws"
    refine ⟨l, _, rfl, .inl (SqL.of (g4.all _ _ (ils p l hl))), rfl, flat_ints _, ?_⟩
    rw [inV_ints]
    obtain ⟨acc, q1, q2, q3⟩ := bl.app (c := !decide (z ∈ hold ds p)) (by
      rw [Bool.not_eq_true', decide_eq_false_iff_not]
      exact ⟨fun h => ⟨z, hz, h⟩, fun ⟨z', hz', h⟩ => by rw [hz] at hz'; cases hz'; exact h⟩) (by omega)
    exact ⟨acc, q1, q2, g4.mut hD (fun _ e => nomatch e), q3⟩
  rintro H4 ⟨g4, bl⟩
  rw [List.length_map] at bl
  obtain ⟨cs, c1, c2⟩ := bl.fin (K := K)
  have g04 := g03.trans g4
  walk_at "ws"
  refine ⟨D, cs, rfl, c1, ?_⟩
  refine ⟨_, rfl, ?_⟩
  refine w_ite (fun e => ?_) (fun e => ?_)
  · walk_at "ws"
    refine k _ _ g04 ⟨fun h => Bool.noConfusion h, fun h => ?_⟩
    have := (bar_three h).2.2.2.1
    rw [c2.mpr fun j hj ⟨z, hz, n⟩ => n (this z (List.mem_of_getElem? hz))] at e
    cases e
  have mem : ∀ z ∈ lot, z ∈ hold ds p := fun z hz => Classical.byContradiction fun n => by
    obtain ⟨j, hj, ej⟩ := List.getElem_of_mem hz
    exact c2.mp e j hj ⟨z, by rw [← ej]; exact List.getElem?_eq_getElem hj, n⟩
  clear bl c1 c2 cs e
  walk_at "ws"
  refine ⟨x, r, m, W, ws, ds, p, rfl, hwb.n g04, web, hrr.n g04, rec, lm, hp, fun l5 xs H5 g5 h5 dp5 => ?_⟩
  walk_at "ws"
  refine i_list (SqL.of h5) ?_
  intro D2 hD2
  have lxs := DpAll.length dp5
  rw [List.length_map] at lxs
  have gl := growL_len W ds (p : Nat)
  have l49 := isweb_len49 web
  refine lc_it (walk_list (xs := xs)) (fun i H' => G none H5 H' ∧ BlE H' D2 i fun j => ∃ u, (growL W ds (p : Nat))[j]? = some u ∧ u.2 ∈ lot ∧ u.1 ∉ lot) ⟨(G.refl).mut hD2 (fun _ e => nomatch e), .nil⟩ (fun i H' _ g => sqL_n g.1 (SqL.of h5)) ?_ ?_
  · rintro i v _ H6 hi ⟨g6, bl⟩ ⟨rfl, hv⟩
    obtain ⟨d, hd, hvd⟩ := DpAll.get dp5 hv
    rw [List.getElem?_map] at hd
    obtain ⟨u, hu, rfl⟩ := Option.map_eq_some_iff.mp hd
    obtain ⟨tt, rfl, htt⟩ := dp_dP hvd
    have ht16 := sqT_t ((g4.trans g5).trans g6).tups ht13
    refine ⟨tt, _, rfl, sqT_t g6.tups htt, rfl, ?_⟩
    refine ⟨_, _, rfl, ?_⟩
    walk_at "ws"
    refine ⟨_, _, rfl, ?_⟩
    walk_at "ws"
    refine ⟨rfl, rfl, ?_⟩
    walk_at "ws"
    refine ⟨t1, _, rfl, .inr ht16, rfl, flat_ints lot, ?_⟩
    rw [inV_ints]
    refine ⟨_, rfl, ?_⟩
    refine w_ite (fun e => ?_) (fun e => ?_)
    · have e : u.2 ∈ lot := by simpa using e
      walk_at "ws"
      refine ⟨t1, _, rfl, .inr ht16, rfl, flat_ints lot, ?_⟩
      rw [inV_ints]
      obtain ⟨acc, q1, q2, q3⟩ := bl.app (c := !decide (u.1 ∈ lot)) (by
        rw [Bool.not_eq_true', decide_eq_false_iff_not]
        exact ⟨fun h => ⟨u, hu, e, h⟩, fun ⟨u', hu', _, h⟩ => by rw [hu] at hu'; cases hu'; exact h⟩) (by omega)
      exact ⟨acc, q1, q2, g6.mut hD2 (fun _ e => nomatch e), q3⟩
    · have e : u.2 ∉ lot := by simpa using e
      obtain ⟨acc, q1, q2, q3⟩ := bl.app (c := false) ⟨fun h => Bool.noConfusion h, fun ⟨u', hu', h, _⟩ => by rw [hu] at hu'; cases hu'; exact absurd h e⟩ (by omega)
      exact ⟨acc, q1, q2, g6.mut hD2 (fun _ e => nomatch e), q3⟩
  rintro H6 ⟨g6, bl⟩
  obtain ⟨cs, c1, c2⟩ := bl.fin (K := K)
  walk_at "ws"
  refine ⟨D2, cs, rfl, c1, ?_⟩
  refine ⟨_, rfl, ?_⟩
  refine k _ _ ((g04.trans g5).trans g6) ?_
  rw [Bool.not_eq_true', c2, lxs]
  constructor
  · intro h
    refine ⟨p, lot, rfl, hp, ne, asc, mem, fun w hw => by rw [hw0] at hw; cases hw; exact own, fun u hu h2 => Classical.byContradiction fun n => ?_⟩
    obtain ⟨j, hj, ej⟩ := List.getElem_of_mem hu
    exact h j hj ⟨u, by rw [← ej]; exact List.getElem?_eq_getElem hj, h2, n⟩
  · intro h j _ ⟨u, hu, h2, n⟩
    exact n ((bar_three h).2.2.2.2.2 u (List.mem_of_getElem? hu) h2)

end
end Mine
/-! ## K63 -/


namespace Mine
section
variable {P : Program} {w : World} {K : PySem.W.Frag} {mg : Str → Option Value} {base : Heap} {a : Ads}

/-! ### is_tree of any thing -/
theorem ab_non {C : Addr → Prop} {hd : Addr} {H : Hp} {v : V} {t : Tg} (h : Ab C hd H v t) : v = .non ↔ t = .non := by
  cases h <;> simp
theorem ab_tup {C : Addr → Prop} {hd : Addr} {H : Hp} {v : V} {ts : List Tg} (h : Ab C hd H v (.tup ts)) : ∃ p xs, v = .ref p ∧ Rd H p (.tup xs) ∧ AbAll C hd H xs ts := by
  cases h with
  | tup r al => exact ⟨_, _, rfl, r, al⟩
theorem tsz_n {n : Int} {t : Tg} (e : tsz n n t = true) : ∃ ts, t = .tup ts ∧ (ts.length : Int) = n := by
  cases t with
  | tup ts =>
    simp only [tsz, Bool.and_eq_true, decide_eq_true_eq] at e
    exact ⟨ts, rfl, by omega⟩
  | non => exact Bool.noConfusion (show false = true from e)
  | bl _ => exact Bool.noConfusion (show false = true from e)
  | int _ => exact Bool.noConfusion (show false = true from e)
  | str _ => exact Bool.noConfusion (show false = true from e)
  | oth => exact Bool.noConfusion (show false = true from e)
def kyP (u : Int × Int) : List Key := [Sum.inl u.1, Sum.inl u.2]
theorem kyP_inj {u z : Int × Int} (e : kyP u = kyP z) : u = z := by
  unfold kyP at e
  injection e with e1 e
  injection e with e2 _
  exact Prod.ext (Sum.inl.inj e1) (Sum.inl.inj e2)
def sa_is_tree (K : PySem.W.Frag) (CR : Addr) (C : Addr → Prop) : Sp := fun vs H Q _ => ∃ (r lw lh hd : Addr) (v : V) (t : Tg) (p : Nat) (m : Int) (W : List (Int × Int)) (ws : List Int) (ds : List (List Int)) (bs : List Addr) (w0 : Int), vs = [.ref r, .int (p : Nat), .ref lw, .ref lh, v] ∧ RecAt K CR H r ws ds ∧ IsRec ws ds ∧ IsWeb m W ∧ ds.length = m.toNat ∧
  H lw = some (.lst (bs.map V.ref)) ∧ TupAll H bs (growL W ds p) ∧ H lh = some (.lst ((hold ds p).map V.int)) ∧ ws[p]? = some w0 ∧ Ab C hd H v t ∧ ∀ c H', G none H H' → (c = true ↔ TrOk (growL W ds p) w0 (hold ds p) ds.length t) → Q (.bl c) H'
theorem oka_is_tree (T : Txt K mg a) : FnOk P w K mg base CX0 4 a.f_is_tree a.d_is_tree P_is_tree (sa_is_tree K a.c_Record (Cs a)) := by
  refine T.F_is_tree.ok sc_is_tree (fun vs H Q E h => by obtain ⟨r, lw, lh, hd, v, t, p, m, W, ws, ds, bs, w0, rfl, _⟩ := h; rfl) (fun cdv A outer s H vs Q E hr h => ?_)
  obtain ⟨r, lw, lh, hd, v, t, p, m, W, ws, ds, bs, w0, rfl, hrr, rec, web, lm, hlw, tup, hlh, hw0, ha, k⟩ := h
  have m1 := web.lo
  have m7 := web.hi
  have l49 := isweb_len49 web
  have p30 := rec.p30
  have gl := growL_len W ds (p : Nat)
  have w0r := rec.wr w0 (List.mem_of_getElem? hw0)
  obtain ⟨n, hn⟩ : ∃ n : Nat, ds.length = n := ⟨_, rfl⟩
  have nm : (n : Int) = m := by omega
  have hW : ∀ u ∈ W, 0 ≤ u.2 ∧ u.2 < (ds.length : Int) := fun u hu => by
    have := web.mem u hu
    omega
  have hG : ∀ u ∈ growL W ds p, (0 ≤ u.1 ∧ u.1 < (n : Int)) ∧ u.2 ∈ hold ds p := fun u hu => by
    have b := growL_bd web ds _ u hu
    refine ⟨by omega, ?_⟩
    obtain ⟨y, x⟩ := u
    have gr : Grow ds y.toNat x.toNat p := of_decide_eq_true (List.mem_filter.mp hu).2
    have b2 : 0 ≤ x ∧ x < m := b.2
    exact hold_mem.mpr ⟨x.toNat, by show x = _; omega, by omega, gr.2.1⟩
  have G_is_tuple_of : FnOk P w K mg base CX0 1 a.f_is_tuple_of a.d_is_tuple_of P_is_tuple_of (sa_is_tuple_of (Cs a)) := oka_is_tuple_of T
  have G_is_below : FnOk P w K mg base CX0 3 a.f_is_below a.d_is_below P_is_below (sa_is_below (Cs a)) := oka_is_below T
  have G_ways_from : FnOk P w K mg base CX0 1 a.f_ways_from a.d_ways_from P_ways_from (sp_ways_from K) := ok_ways_from T
  refine ⟨_, (pss_cons (ps_set (i := 5) sc_is_tree.nd rfl (Or.inr rfl) (pe_callB call_len_seq (by rfl) T.n_len (by decide +kernel) (pa_cons (pe_fld (pv 0) rfl) pa_nil)))
  (pss_cons (ps_if (L2.PW.pt (pw_or (pt_not (pt_val (pe_call (G_is_tuple_of) (hr.mono (by omega)) rfl T.m_is_tuple_of T.F_is_tuple_of.kp T.b_is_tuple_of .nil pass0 (pa_cons (pv 5) (pa_cons (pv 5) (pa_cons (pv 4) pa_nil)))))) (pw_or1 (pt_cmp (pc_notN (pe_ix ix_tup (pv 4) (pe_ix ix_tup (pe_fld (pv 0) rfl) (pv 1) (fun _ _ => rfl)) (fun _ _ => rfl)))))))
    (pss_one (ps_ret pe_bl))
    pss_nil)
  (pss_cons (ps_if (pt_not (pt_val (pe_callB (cr_all rfl) (by rfl) T.n_all (by decide +kernel) (pa_cons (pe_lc (own := [("y", 9)]) (g := (gName 9)) (tt := tYes) rfl sc_is_tree.nd (pi_tup (pv 4)) (blkOk_by (N := N_is_tree) (sc := defScope s_is_tree) (by decide +kernel)) (fun _ _ _ _ _ => (pg_name (i := 9) sc_is_tree.nd rfl (by first | exact Or.inl rfl | exact Or.inr rfl))) (fun _ _ _ _ _ => pts_nil) (fun _ _ _ _ _ => (pe_or (pe_cmp (pc_isN (pv 9))) (pe_one (pe_call (G_is_below) (hr.mono (by omega)) rfl T.m_is_below T.F_is_below.kp T.b_is_below .nil pass0 (pa_cons (pv 5) (pa_cons (pv 9) pa_nil))))))) pa_nil))))
    (pss_one (ps_ret pe_bl))
    pss_nil)
  (pss_cons (ps_setLc (i := 6) (own := [("x", 8), ("y", 9)]) (g := (gTup K 2 (gCons (gName 8) (gCons (gName 9) gNil))))  rfl sc_is_tree.nd rfl rfl (sw_true rfl rfl rfl (by decide +kernel)) (pi_enumT (by rfl) T.n_enumerate (pa_cons (pv 4) pa_nil)) (blkOk_by (N := N_is_tree) (sc := defScope s_is_tree) (by decide +kernel)) (fun _ _ _ _ _ => (pg_tup rfl (pgs_cons (pg_name (i := 8) sc_is_tree.nd rfl (by first | exact Or.inl rfl | exact Or.inr rfl)) (pgs_cons (pg_name (i := 9) sc_is_tree.nd rfl (by first | exact Or.inl rfl | exact Or.inr rfl)) pgs_nil)))) (fun _ _ _ _ _ => (pts_one (pt_cmp (pc_notN (pv 9))))) (fun _ _ _ _ _ => (pe_tupN (pa_cons (pv 9) (pa_cons (pv 8) pa_nil)))))
  (pss_cons (ps_set (i := 7) sc_is_tree.nd rfl (Or.inr rfl) (pe_dcT (hu_of hr) (own := [("wire", 10)]) (g := (gName 10)) (tt := tYes) rfl sc_is_tree.nd (pi_list (pv 2)) (blkOk_by (N := N_is_tree) (sc := defScope s_is_tree) (by decide +kernel)) (fun _ _ _ _ _ => (pg_name (i := 10) sc_is_tree.nd rfl (by first | exact Or.inl rfl | exact Or.inr rfl))) (fun _ _ _ _ _ => pts_nil) (fun _ _ _ _ _ => (pv 10)) (fun _ _ _ _ _ => pe_bl)))
  (pss_cons (ps_if (pt_not (pt_val (pe_callB (cr_all rfl) (by rfl) T.n_all (by decide +kernel) (pa_cons (pe_lc (own := [("wire", 10)]) (g := (gName 10)) (tt := tYes) rfl sc_is_tree.nd (pi_list (pv 6)) (blkOk_by (N := N_is_tree) (sc := defScope s_is_tree) (by decide +kernel)) (fun _ _ _ _ _ => (pg_name (i := 10) sc_is_tree.nd rfl (by first | exact Or.inl rfl | exact Or.inr rfl))) (fun _ _ _ _ _ => pts_nil) (fun _ _ _ _ _ => (pe_cmp (pc_din (hu_of hr) (pv 10) (pv 7))))) pa_nil))))
    (pss_one (ps_ret pe_bl))
    pss_nil)
  (pss_one (ps_ret (pe_cmpR op_eq (pe_callB call_lenD (by rfl) T.n_len (by decide +kernel) (pa_cons (pe_call (G_ways_from) (hr.mono (by omega)) rfl T.m_ways_from T.F_ways_from.kp T.b_ways_from .nil pass0 (pa_cons (pe_ix ix_tup (pe_fld (pv 0) rfl) (pv 1) (fun _ _ => rfl)) (pa_cons (pv 6) pa_nil))) pa_nil)) (pe_callB call_len_seq (by rfl) T.n_len (by decide +kernel) (pa_cons (pv 3) pa_nil)) (nomark _)))))))))), ?_⟩
  walk_at "ws"
  obtain ⟨dr, wp, dp, hrr0, hwp, bd, hbd, lbd, _⟩ := id hrr
  refine r_fld hrr0 T.cl_Record T.na_Record_diaries (rf_d _ _) ?_
  refine ⟨dp, _, rfl, .inr hbd, ?_⟩
  walk_at "ws"
  rw [List.length_map, lbd, hn]
  rw [hn] at k
  refine ⟨_, _, hd, v, t, rfl, ha, ?_⟩
  refine ⟨_, rfl, ?_⟩
  refine w_ite (fun e => ?_) (fun e => ?_)
  · refine w_iteE rfl ?_
    walk_at "ws"
    refine k _ _ .refl ⟨fun h => Bool.noConfusion h, ?_⟩
    rintro ⟨ts, rfl, l, _⟩
    have : tsz n n (.tup ts) = true := by simp only [tsz, Bool.and_eq_true, decide_eq_true_eq]; omega
    rw [this] at e
    cases e
  replace e : tsz n n t = true := by simpa using e
  obtain ⟨ts, rfl, lt⟩ := tsz_n e
  clear e
  have lt : ts.length = n := by omega
  obtain ⟨q, xs, rfl, hq0, al⟩ := ab_tup ha
  have lx : xs.length = n := by rw [al.length, lt]
  have hq : SqT K H q xs := .inl hq0
  have TP := trOk_prog hG (by omega : 0 ≤ w0 ∧ w0 < (n : Int)) lt
  rw [TP] at k
  clear TP
  obtain ⟨v0, hv0⟩ : ∃ v0, xs[w0.toNat]? = some v0 := ⟨_, List.getElem?_eq_getElem (by omega)⟩
  obtain ⟨t0, ht0, ha0⟩ := al.get hv0
  walk_at "ws"
  refine r_fld hrr0 T.cl_Record T.na_Record_writers (rf_w _ _) ?_
  walk_at "ws"
  refine r_ixT hwp (v := .int w0) (at_of (j := p) rfl (by rw [List.getElem?_map, hw0]; rfl)) ?_
  refine r_ixT hq (v := v0) (at_of (j := w0.toNat) (by omega) hv0) ?_
  walk_at "ws"
  refine w_ite (fun e => ?_) (fun e => ?_)
  · walk_at "ws"
    refine k _ _ .refl ⟨fun h => Bool.noConfusion h, fun h => ?_⟩
    rw [ht0] at h
    have e1 := (ab_non ha0).mpr (Option.some.inj h.1)
    subst e1
    exact absurd e (by simp)
  have e0 : t0 = .non := (ab_non ha0).mp (by simpa using e)
  rw [e0] at ht0
  clear e
  walk_at "ws"
  refine i_tup hq ?_
  intro D hD
  refine lc_it (walk_tup (xs := xs)) (fun i H' => G none H H' ∧ BlA H' D i fun j => ∀ t, ts[j]? = some t → t = .non ∨ blw n t = true) ⟨(G.refl).mut hD (fun _ e => nomatch e), .nil⟩ (fun i H' _ g => sqT_t g.1.tups hq) ?_ ?_
  · rintro i v _ H1 hi ⟨g1, bl⟩ ⟨rfl, hv⟩
    obtain ⟨t1, ht1, ha1⟩ := al.get hv
    show gName 9 v _ _ _
    walk_at "ws"
    refine ⟨rfl, ?_⟩
    walk_at "ws"
    refine w_ite (fun e => ?_) (fun e => ?_)
    · have e : t1 = .non := (ab_non ha1).mp (by simpa using e)
      obtain ⟨acc, q1, q2, q3⟩ := bl.app (c := true) ⟨fun _ t z => by rw [ht1] at z; cases z; exact .inl e, fun _ => rfl⟩ (by omega)
      exact ⟨acc, q1, q2, g1.mut hD (fun _ e => nomatch e), q3⟩
    · have e : t1 ≠ .non := fun z => absurd ((ab_non ha1).mpr z) (by simpa using e)
      walk_at "ws"
      refine ⟨_, hd, v, t1, rfl, ha1.n g1, ?_⟩
      obtain ⟨acc, q1, q2, q3⟩ := bl.app (c := blw n t1) ⟨fun h t z => by rw [ht1] at z; cases z; exact .inr h, fun h => (h t1 ht1).resolve_left e⟩ (by omega)
      exact ⟨acc, q1, q2, g1.mut hD (fun _ e => nomatch e), q3⟩
  rintro H1 ⟨g1, bl⟩
  obtain ⟨cs, c1, c2⟩ := bl.fin (K := K)
  have hq1 := sqT_t g1.tups hq
  have al1 := al.n g1
  walk_at "ws"
  refine ⟨D, cs, rfl, c1, ?_⟩
  refine ⟨_, rfl, ?_⟩
  refine w_ite (fun e => ?_) (fun e => ?_)
  · walk_at "ws"
    refine k _ _ g1 ⟨fun h => Bool.noConfusion h, fun h => ?_⟩
    rw [c2.mpr fun j _ t ht => h.2.1 t (List.mem_of_getElem? ht)] at e
    cases e
  replace e : cs.all id = true := by simpa using e
  have be := c2.mp e
  clear bl c1 c2 e cs hD D
  walk_at "ws"
  -- the wires that are taken
  refine ⟨q, _, rfl, hq1, ?_⟩
  intro D hD
  refine lc_it (walk_enumT (xs := xs)) (fun i H' => G none H1 H' ∧ ∃ as : List Addr, H' D = some (.lst (as.map V.ref)) ∧ TupAll H' as (tkT ts i)) ⟨(G.refl).mut hD (fun _ e => nomatch e), [], upd_same, rfl, fun _ _ _ z => by simp at z⟩ (fun i H' _ g => sqT_t g.1.tups hq1) ?_ ?_
  · rintro i v H2 H3 hi ⟨g2, as, h2, tt⟩ ⟨t, y, z, rfl, ht, rfl, ey, ez⟩
    cases Option.some.inj ey
    have ez : xs[i]? = some z := ez
    obtain ⟨t1, ht1, ha1⟩ := al1.get ez
    have lk := tkT_len ts i
    have l1 := tt.1
    have gB : G none H2 (upd H2 t (.tup [.int (i : Nat), z])) := G.alloc ht
    refine ⟨t, _, rfl, SqT.of upd_same, rfl, ?_⟩
    refine ⟨_, _, rfl, ?_⟩
    walk_at "ws"
    refine ⟨_, _, rfl, ?_⟩
    walk_at "ws"
    refine ⟨rfl, rfl, ?_⟩
    generalize upd H2 t (.tup [.int (i : Nat), z]) = H3 at gB ⊢
    have h3 := gB.all _ _ h2
    have tt3 := tt.g gB (fun _ e => nomatch e)
    walk_at "ws"
    rcases be i (by omega) t1 ht1 with rfl | c
    · obtain rfl : z = .non := (ab_non ha1).mpr rfl
      rw [tkT_non ht1]
      refine w_iteN (by simp) ?_
      exact ⟨g2.trans gB, as, h3, tt3⟩
    · obtain ⟨y, rfl⟩ := blw_int c
      cases ab_int ha1
      rw [tkT_int ht1]
      refine w_iteE (by simp) ?_
      walk_at "ws"
      refine ⟨sz (by simp), fun t2 H4 ht2 g4 h4 => ?_⟩
      have h4D := (g4 none).all _ _ h3
      refine ⟨as.map V.ref, h4D, Nat.lt_of_le_of_lt (by rw [List.length_map]; omega : (as.map V.ref).length ≤ 100000) (by decide), ((g2.trans gB).trans (g4 none)).mut hD (fun _ e => nomatch e), as ++ [t2], by rw [upd_same, List.map_append]; rfl, ?_⟩
      exact ((tt3.g (g4 none) (fun _ e => nomatch e)).put h4D).app (by rw [upd_ne (ne_of h4 h4D (by intro z; cases z))]; exact h4)
  rintro H2 ⟨g2, as, h2, tt⟩
  rw [lx] at tt
  have g02 := g1.trans g2
  have h2w := g02.all _ _ hlw
  have tup2 := tup.g g02 (fun _ e => nomatch e)
  have ltk := tkT_len ts n
  have lts := tt.1
  walk_at "ws"
  refine w_dcT ?_
  walk_at "ws"
  refine i_list (SqL.of h2w) ?_
  intro D2 hD2
  refine dcT_it (walk_list (xs := bs.map V.ref)) (fun i H' => G none H2 H' ∧ ∃ kv : List (List Key × V), H' D2 = some (.dT kv) ∧ kv.length ≤ i ∧ ∀ u, (valV kv (kyP u)).isSome = true ↔ u ∈ (growL W ds p).take i) ⟨(G.refl).mut hD2 (fun _ e => nomatch e), [], upd_same, Nat.zero_le _, fun u => by simp [valV]⟩ (fun i H' _ g => sqL_n g.1 (SqL.of h2w)) ?_ ?_
  · rintro i v _ H3 hi ⟨g3, kv, h3, l3, all3⟩ ⟨rfl, hv⟩
    rw [List.length_map] at hi
    rw [List.getElem?_map] at hv
    obtain ⟨b, hb, rfl⟩ := Option.map_eq_some_iff.mp hv
    have lb := tup.1
    obtain ⟨u, hu⟩ : ∃ u, (growL W ds p)[i]? = some u := ⟨_, List.getElem?_eq_getElem (by omega)⟩
    have tk : (growL W ds p).take (i + 1) = (growL W ds p).take i ++ [u] := by rw [List.take_add_one, hu]; rfl
    have hbt := (tup2.g g3 (fun _ e => nomatch e)).2 i b u hb hu
    walk_at "ws"
    refine ⟨rfl, ?_⟩
    walk_at "ws"
    refine ⟨kv, kyP u, b, rfl, hbt, h3, Nat.lt_of_le_of_lt (by omega : kv.length ≤ 1000) (by decide), g3.mut hD2 (fun _ e => nomatch e), _, upd_same, ?_, fun z => ?_⟩
    · have := length_putK kv (kyP u) (V.bl true)
      omega
    · rw [valV_put, tk, List.mem_append]
      split
      · rename_i c
        exact ⟨fun _ => .inr (by simp [kyP_inj c]), fun _ => rfl⟩
      · rename_i c
        rw [all3]
        exact ⟨.inl, fun h => h.resolve_right fun h => c (by rw [show z = u from by simpa using h])⟩
  rintro H3 ⟨g3, kv, h3, l3, all3⟩
  rw [List.length_map, tup.1, List.take_length] at all3
  rw [List.length_map, tup.1] at l3
  walk_at "ws"
  have h3D := g3.all _ _ h2
  have tt3 := tt.g g3 (fun _ e => nomatch e)
  refine i_list (SqL.of h3D) ?_
  intro D3 hD3
  refine lc_it (walk_list (xs := as.map V.ref)) (fun i H' => G none H3 H' ∧ BlA H' D3 i fun j => ∀ u, (tkT ts n)[j]? = some u → u ∈ growL W ds p) ⟨(G.refl).mut hD3 (fun _ e => nomatch e), .nil⟩ (fun i H' _ g => sqL_n g.1 (SqL.of h3D)) ?_ ?_
  · rintro i v _ H4 hi ⟨g4, bl⟩ ⟨rfl, hv⟩
    rw [List.length_map] at hi
    rw [List.getElem?_map] at hv
    obtain ⟨b, hb, rfl⟩ := Option.map_eq_some_iff.mp hv
    obtain ⟨u, hu⟩ : ∃ u, (tkT ts n)[i]? = some u := ⟨_, List.getElem?_eq_getElem (by omega)⟩
    have hbt := (tt3.g g4 (fun _ e => nomatch e)).2 i b u hb hu
    walk_at "ws"
    refine ⟨rfl, ?_⟩
    walk_at "ws"
    show tVar 10 _ _ _
    walk_at "ws"
    refine ⟨D2, _, rfl, DGet.t (k := kyP u) (g4.all _ _ h3) hbt, ?_⟩
    obtain ⟨acc, q1, q2, q3⟩ := bl.app (c := (valV kv (kyP u)).isSome) (by
      rw [all3]
      exact ⟨fun h u' z => by rw [hu] at z; cases z; exact h, fun h => h u hu⟩) (by omega)
    exact ⟨acc, q1, q2, g4.mut hD3 (fun _ e => nomatch e), q3⟩
  rintro H4 ⟨g4, bl⟩
  rw [List.length_map, lts] at bl
  obtain ⟨cs, c1, c2⟩ := bl.fin (K := K)
  have g04 := (g02.trans g3).trans g4
  walk_at "ws"
  refine ⟨D3, cs, rfl, c1, ?_⟩
  refine ⟨_, rfl, ?_⟩
  refine w_ite (fun e => ?_) (fun e => ?_)
  · walk_at "ws"
    refine k _ _ g04 ⟨fun h => Bool.noConfusion h, fun h => ?_⟩
    rw [c2.mpr fun j _ u hu => h.2.2.1 u (List.mem_of_getElem? hu)] at e
    cases e
  replace e : cs.all id = true := by simpa using e
  have sub : ∀ u ∈ tkT ts n, u ∈ growL W ds p := fun u hu => by
    obtain ⟨j, hj, ej⟩ := List.getElem_of_mem hu
    exact c2.mp e j hj u (by rw [← ej]; exact List.getElem?_eq_getElem hj)
  clear bl c1 c2 e cs
  walk_at "ws"
  refine r_fld (g04.all _ _ hrr0) T.cl_Record T.na_Record_writers (rf_w _ _) ?_
  walk_at "ws"
  refine r_ixT (sqT_t g04.tups hwp) (v := .int w0) (at_of (j := p) rfl (by rw [List.getElem?_map, hw0]; rfl)) ?_
  walk_at "ws"
  have bd : ∀ u ∈ tkT ts n, (0 ≤ u.1 ∧ u.1 < m) ∧ (0 ≤ u.2 ∧ u.2 < m) := fun u hu => growL_bd web ds _ u (sub u hu)
  refine ⟨w0, m, D, _, tkT ts n, rfl, SqL.of ((g3.trans g4).all _ _ h2), tupAll_dp (p := D) ((tt3.g g4 (fun _ e => nomatch e))), bd, by omega, by omega, by omega, fun f kvs' ks' H5 hf g5 h5 tr' nk' rk' mem' _ => ?_⟩
  walk_at "ws"
  refine ⟨f, kvs', rfl, h5, ?_⟩
  walk_at "ws"
  refine ⟨lh, _, rfl, .inl (SqL.of ((g04.trans g5).all _ _ hlh)), ?_⟩
  walk_at "ws"
  have lk : kvs'.length = ks'.length := by
    have := congrArg List.length tr'.keys
    rw [List.length_map, List.length_map] at this
    exact this
  have sub2 : ∀ z ∈ ks', z ∈ hold ds p := fun z h => reach_hold hW (own_hold rec hw0) (reach_mono sub ((mem' z).mp h))
  have le1 := lens_sub nk' (hold_nd ds p) sub2
  have le2 := List.Nodup.length_le_of_subset nk' sub2
  refine k _ _ (g04.trans g5) ?_
  rw [decide_eq_true_iff, lk, List.length_map]
  constructor
  · intro h
    have h2 := le1.mp (by omega)
    refine ⟨ht0, fun t ht => ?_, sub, fun z hz => (mem' z).mp (h2 z hz)⟩
    obtain ⟨j, hj, ej⟩ := List.getElem_of_mem ht
    exact be j (by omega) t (by rw [← ej]; exact List.getElem?_eq_getElem hj)
  · rintro ⟨_, _, _, h⟩
    have := le1.mpr fun z hz => (mem' z).mpr (h z hz)
    omega

end
end Mine
/-! ## K64 -/


namespace Mine
section
variable {P : Program} {w : World} {K : PySem.W.Frag} {mg : Str → Option Value} {base : Heap} {a : Ads}

/-! ### is_trees of any thing -/
theorem trsOk_tup {W : List (Int × Int)} {ws : List Int} {ds : List (List Int)} {ts : List Tg} : TrsOk W ws ds (.tup ts) ↔ ts.length = ws.length ∧ ∀ (p : Nat) (t : Tg) (w0 : Int), ts[p]? = some t → ws[p]? = some w0 → TrOk (growL W ds p) w0 (hold ds p) ds.length t := by
  constructor
  · rintro ⟨_, e, h⟩
    cases e
    exact h
  · intro h
    exact ⟨ts, rfl, h⟩
def sa_is_trees (K : PySem.W.Frag) (CW CR : Addr) (C : Addr → Prop) : Sp := fun vs H Q _ => ∃ (x r hd : Addr) (v : V) (t : Tg) (m : Int) (W : List (Int × Int)) (ws : List Int) (ds : List (List Int)), vs = [.ref x, .ref r, v] ∧ WebAt K CW H x m W ∧ IsWeb m W ∧ RecAt K CR H r ws ds ∧ IsRec ws ds ∧ ds.length = m.toNat ∧
  Ab C hd H v t ∧ ∀ c H', G none H H' → (c = true ↔ TrsOk W ws ds t) → Q (.bl c) H'
theorem oka_is_trees (T : Txt K mg a) : FnOk P w K mg base CX0 5 a.f_is_trees a.d_is_trees P_is_trees (sa_is_trees K a.c_Web a.c_Record (Cs a)) := by
  refine T.F_is_trees.ok sc_is_trees (fun vs H Q E h => by obtain ⟨x, r, hd, v, t, m, W, ws, ds, rfl, _⟩ := h; rfl) (fun cdv A outer s H vs Q E hr h => ?_)
  obtain ⟨x, r, hd, v, t, m, W, ws, ds, rfl, hwb, web, hrr, rec, lm, ha, k⟩ := h
  have m1 := web.lo
  have p30 := rec.p30
  have G_check_machines : FnOk P w K mg base CX0 4 a.f_check_machines a.d_check_machines P_check_machines (sp_check_machines K a.c_Record) := ok_check_machines T
  have G_is_tuple_of : FnOk P w K mg base CX0 1 a.f_is_tuple_of a.d_is_tuple_of P_is_tuple_of (sa_is_tuple_of (Cs a)) := oka_is_tuple_of T
  have G_wires_by_put : FnOk P w K mg base CX0 2 a.f_wires_by_put a.d_wires_by_put P_wires_by_put (sp_wires_by_put K a.c_Web a.c_Record) := ok_wires_by_put T
  have G_holders_by_put : FnOk P w K mg base CX0 1 a.f_holders_by_put a.d_holders_by_put P_holders_by_put (sp_holders_by_put K a.c_Record) := ok_holders_by_put T
  have G_is_tree : FnOk P w K mg base CX0 4 a.f_is_tree a.d_is_tree P_is_tree (sa_is_tree K a.c_Record (Cs a)) := oka_is_tree T
  refine ⟨_, (pss_cons (ps_expr (pe_call (G_check_machines) (hr.mono (by omega)) rfl T.m_check_machines T.F_check_machines.kp T.b_check_machines .nil pass0 (pa_cons (pe_fld (pv 0) rfl) (pa_cons (pv 1) pa_nil))))
  (pss_cons (ps_set (i := 3) sc_is_trees.nd rfl (Or.inl rfl) (pe_callB call_len_seq (by rfl) T.n_len (by decide +kernel) (pa_cons (pe_fld (pv 1) rfl) pa_nil)))
  (pss_cons (ps_if (pt_not (pt_val (pe_call (G_is_tuple_of) (hr.mono (by omega)) rfl T.m_is_tuple_of T.F_is_tuple_of.kp T.b_is_tuple_of .nil pass0 (pa_cons (pv 3) (pa_cons (pv 3) (pa_cons (pv 2) pa_nil))))))
    (pss_one (ps_ret pe_bl))
    pss_nil)
  (pss_cons (ps_set (i := 4) sc_is_trees.nd rfl (Or.inr rfl) (pe_call (G_wires_by_put) (hr.mono (by omega)) rfl T.m_wires_by_put T.F_wires_by_put.kp T.b_wires_by_put .nil pass0 (pa_cons (pv 0) (pa_cons (pv 1) pa_nil))))
  (pss_cons (ps_set (i := 5) sc_is_trees.nd rfl (Or.inr rfl) (pe_call (G_holders_by_put) (hr.mono (by omega)) rfl T.m_holders_by_put T.F_holders_by_put.kp T.b_holders_by_put .nil pass0 (pa_cons (pv 1) pa_nil)))
  (pss_one (ps_ret (pe_callB (cr_all rfl) (by rfl) T.n_all (by decide +kernel) (pa_cons (pe_lc (own := [("put", 6), ("tree", 7)]) (g := (gTup K 2 (gCons (gName 6) (gCons (gName 7) gNil)))) (tt := tYes) rfl sc_is_trees.nd (pi_enumT (by rfl) T.n_enumerate (pa_cons (pv 2) pa_nil)) (blkOk_by (N := N_is_trees) (sc := defScope s_is_trees) (by decide +kernel)) (fun _ _ _ _ _ => (pg_tup rfl (pgs_cons (pg_name (i := 6) sc_is_trees.nd rfl (by first | exact Or.inl rfl | exact Or.inr rfl)) (pgs_cons (pg_name (i := 7) sc_is_trees.nd rfl (by first | exact Or.inl rfl | exact Or.inr rfl)) pgs_nil)))) (fun _ _ _ _ _ => pts_nil) (fun _ _ _ _ _ => (pe_call (G_is_tree) (hr.mono (by omega)) rfl T.m_is_tree T.F_is_tree.kp T.b_is_tree .nil pass0 (pa_cons (pv 1) (pa_cons (pv 6) (pa_cons (pe_ix (k_ix_list K) (pv 4) (pv 6) (fun _ _ => rfl)) (pa_cons (pe_ix (k_ix_list K) (pv 5) (pv 6) (fun _ _ => rfl)) (pa_cons (pv 7) pa_nil)))))))) pa_nil))))))))), ?_⟩
  walk_at "ws"
  obtain ⟨dx, wa, hx, hwa⟩ := id hwb
  obtain ⟨dr, wp, dp, hrr0, hwp, _⟩ := id hrr
  refine r_fld hx T.cl_Web T.na_Web_machines (wf_m _ _) ?_
  walk_at "ws"
  refine ⟨r, ws, ds, by rw [show m = (ds.length : Int) from by omega]; rfl, hrr, ?_⟩
  walk_at "ws"
  refine r_fld hrr0 T.cl_Record T.na_Record_writers (rf_w _ _) ?_
  refine ⟨wp, _, rfl, .inr hwp, ?_⟩
  walk_at "ws"
  rw [List.length_map]
  refine ⟨_, _, hd, v, t, rfl, ha, ?_⟩
  refine ⟨_, rfl, ?_⟩
  refine w_ite (fun e => ?_) (fun e => ?_)
  · walk_at "ws"
    refine k _ _ .refl ⟨fun h => Bool.noConfusion h, ?_⟩
    rintro ⟨ts, rfl, l, _⟩
    have : tsz ws.length ws.length (.tup ts) = true := by simp only [tsz, Bool.and_eq_true, decide_eq_true_eq]; omega
    rw [this] at e
    cases e
  replace e : tsz ws.length ws.length t = true := by simpa using e
  obtain ⟨ts, rfl, lt⟩ := tsz_n e
  clear e
  have lt : ts.length = ws.length := by omega
  obtain ⟨q, xs, rfl, hq0, al⟩ := ab_tup ha
  have lx : xs.length = ws.length := by rw [al.length, lt]
  have hq : SqT K H q xs := .inl hq0
  rw [trsOk_tup] at k
  walk_at "ws"
  refine ⟨x, r, m, W, ws, ds, rfl, hwb, web, hrr, rec, lm, fun R ls H1 hR g1 h1 ll _ pls => ?_⟩
  walk_at "ws"
  refine ⟨r, ws, ds, rfl, hrr.n g1, rec, fun R2 ls2 H2 hR2 g2 h2 ll2 ils => ?_⟩
  walk_at "ws"
  have g02 := g1.trans g2
  have hq2 := sqT_t g02.tups hq
  have h2R := g2.all _ _ h1
  refine ⟨q, _, rfl, hq2, ?_⟩
  intro D hD
  refine lc_it (walk_enumT (xs := xs)) (fun i H' => G none H2 H' ∧ BlA H' D i fun j => ∀ t w0, ts[j]? = some t → ws[j]? = some w0 → TrOk (growL W ds (j : Nat)) w0 (hold ds j) ds.length t) ⟨(G.refl).mut hD (fun _ e => nomatch e), .nil⟩ (fun i H' _ g => sqT_t g.1.tups hq2) ?_ ?_
  · rintro i v H3 H4 hi ⟨g3, bl⟩ ⟨tt, y, z, rfl, htt, rfl, ey, ez⟩
    cases Option.some.inj ey
    have ez : xs[i]? = some z := ez
    obtain ⟨t1, ht1, ha1⟩ := al.get ez
    have gB : G none H3 (upd H3 tt (.tup [.int (i : Nat), z])) := G.alloc htt
    refine ⟨tt, _, rfl, SqT.of upd_same, rfl, ?_⟩
    refine ⟨_, _, rfl, ?_⟩
    walk_at "ws"
    refine ⟨_, _, rfl, ?_⟩
    walk_at "ws"
    refine ⟨rfl, rfl, ?_⟩
    generalize upd H3 tt (.tup [.int (i : Nat), z]) = H4 at gB ⊢
    have g24 := g3.trans gB
    have g04 := g02.trans g24
    obtain ⟨l, hl⟩ : ∃ l, ls[i]? = some l := ⟨_, List.getElem?_eq_getElem (by omega)⟩
    obtain ⟨l2, hl2⟩ : ∃ l, ls2[i]? = some l := ⟨_, List.getElem?_eq_getElem (by omega)⟩
    obtain ⟨w0, hw0⟩ : ∃ w0, ws[i]? = some w0 := ⟨_, List.getElem?_eq_getElem (by omega)⟩
    obtain ⟨bs, a1, a2⟩ := (pls.n (g2.trans g24)) i l hl
    walk_at "ws"
    refine r_ixL (SqL.of (g24.all _ _ h2R)) (v := .ref l) (at_of (j := i) rfl (by rw [List.getElem?_map, hl]; rfl)) ?_
    walk_at "ws"
    refine r_ixL (SqL.of (g24.all _ _ h2)) (v := .ref l2) (at_of (j := i) rfl (by rw [List.getElem?_map, hl2]; rfl)) ?_
    walk_at "ws"
    refine ⟨r, l, l2, hd, z, t1, i, m, W, ws, ds, bs, w0, rfl, hrr.n g04, rec, web, lm, a1, a2, (ils.n g24) i l2 hl2, hw0, ha1.n g04, fun c H5 g5 hc => ?_⟩
    obtain ⟨acc, r1, r2, r3⟩ := (bl.n (gB.trans g5)).app (c := c) (by
      rw [hc]
      exact ⟨fun h t w z1 z2 => by rw [ht1] at z1; rw [hw0] at z2; cases z1; cases z2; exact h, fun h => h _ _ ht1 hw0⟩) (by omega)
    exact ⟨acc, r1, r2, (g24.trans g5).mut hD (fun _ e => nomatch e), r3⟩
  rintro H3 ⟨g3, bl⟩
  rw [lx] at bl
  obtain ⟨cs, c1, c2⟩ := bl.fin (K := K)
  walk_at "ws"
  refine ⟨D, cs, rfl, c1, ?_⟩
  refine k _ _ (g02.trans g3) ?_
  rw [c2]
  exact ⟨fun h => ⟨lt, fun p t w h1 h2 => h p (List.getElem?_eq_some_iff.mp h2).1 t w h1 h2⟩, fun h j _ t w h1 h2 => h.2 j t w h1 h2⟩

end
end Mine
/-! ## K65 -/


namespace Mine
section
variable {P : Program} {w : World} {K : PySem.W.Frag} {mg : Str → Option Value} {base : Heap} {a : Ads}

/-! ### the law's own look at a tree of any kind -/
theorem inV_non (d : List Int) : inV .non (d.map V.int) = false := by
  unfold inV
  rw [List.any_map, List.any_eq_false]
  intro z _
  simp [eqV]
def sa__law_is_tree (K : PySem.W.Frag) (C : Addr → Prop) : Sp := fun vs H Q _ => ∃ (wa vp dp hd9 : Addr) (v : V) (t : Tg) (p : Nat) (m : Int) (bs : List Addr) (W : List (Int × Int)) (ws : List Int) (ds : List (List Int)) (w0 : Int), vs = [.ref wa, .ref vp, .ref dp, .int (p : Nat), v] ∧ SqT K H wa (bs.map V.ref) ∧ TupAll H bs W ∧ IsWeb m W ∧ SqT K H vp (ws.map V.int) ∧ Dia K H dp ds ∧ IsRec ws ds ∧ ds.length = m.toNat ∧
  ws[p]? = some w0 ∧ Ab C hd9 H v t ∧ ∀ c H', G none H H' → (c = true ↔ TrOk (growL W ds p) w0 (hold ds p) ds.length t) → Q (.bl c) H'
theorem oka__law_is_tree (T : Txt K mg a) : FnOk P w K mg base CX0 2 a.f__law_is_tree a.d__law_is_tree P__law_is_tree (sa__law_is_tree K (Cs a)) := by
  refine T.F__law_is_tree.ok sc__law_is_tree (fun vs H Q E h => by obtain ⟨wa, vp, dp, hd9, v, t, p, m, bs, W, ws, ds, w0, rfl, _⟩ := h; rfl) (fun cdv A outer s H vs Q E hr h => ?_)
  obtain ⟨wa, vp, dp, hd9, v, t, p, m, bs, W, ws, ds, w0, rfl, hwa, tup, web, hvp, hdia, rec, lm, hw0, ha, k⟩ := h
  have m1 := web.lo
  have m7 := web.hi
  have l49 := isweb_len49 web
  have p30 := rec.p30
  have gl := growL_len W ds (p : Nat)
  have w0r := rec.wr w0 (List.mem_of_getElem? hw0)
  obtain ⟨n, hn⟩ : ∃ n : Nat, ds.length = n := ⟨_, rfl⟩
  have nm : (n : Int) = m := by omega
  have w0n : 0 ≤ w0 ∧ w0 < (n : Int) := by omega
  have hW : ∀ u ∈ W, 0 ≤ u.2 ∧ u.2 < (ds.length : Int) := fun u hu => by
    have := web.mem u hu
    omega
  obtain ⟨bd, hbd, lbd, hfd⟩ := id hdia
  rw [hn] at k
  have G__law_grow : FnOk P w K mg base CX0 1 a.f__law_grow a.d__law_grow P__law_grow (sp__law_grow K) := ok__law_grow T
  have G__law_is_whole : FnOk P w K mg base CX0 1 a.f__law_is_whole a.d__law_is_whole P__law_is_whole (sa__law_is_whole (Cs a)) := oka__law_is_whole T
  refine ⟨_, (pss_cons (ps_if (L2.PW.pt (pw_or (pt_not (pt_val (pe_callB call_isi (by rfl) T.n_isinstance (by decide +kernel) (pa_cons (pv 4) (pa_cons (pe_bltn (v := .ty "tuple") (u := .type "tuple") rfl T.n_tuple (by decide +kernel) rfl) pa_nil))))) (pw_or1 (pt_cmpR op_ne (pe_callB call_len_seq (by rfl) T.n_len (by decide +kernel) (pa_cons (pv 4) pa_nil)) (pe_callB call_len_seq (by rfl) T.n_len (by decide +kernel) (pa_cons (pv 2) pa_nil)) (nomark _)))))
    (pss_one (ps_ret pe_bl))
    pss_nil)
  (pss_cons (ps_set (i := 5) sc__law_is_tree.nd rfl (Or.inl rfl) (pe_call (G__law_grow) (hr.mono (by omega)) rfl T.m__law_grow T.F__law_grow.kp T.b__law_grow .nil pass0 (pa_cons (pv 0) (pa_cons (pv 2) (pa_cons (pv 3) pa_nil)))))
  (pss_cons (ps_for PassesOwn.never rfl (pi_range1 rfl T.n_range (pa_cons (pe_callB call_len_seq (by rfl) T.n_len (by decide +kernel) (pa_cons (pv 2) pa_nil)) pa_nil)) (pg_name (i := 6) sc__law_is_tree.nd rfl (Or.inl rfl))
    (pss_one (ps_if (L2.PW.pt (pw_or (pt_cmpR op_eq (pv 6) (pe_ix ix_tup (pv 1) (pv 3) (fun _ _ => rfl)) (nomark _)) (pw_or1 (pt_cmpR op_notIn_seq (pv 3) (pe_ix ix_tup (pv 2) (pv 6) (fun _ _ => rfl)) (by rfl)))))
    (pss_one (ps_if (pt_cmp (pc_notN (pe_ix ix_tup (pv 4) (pv 6) (fun _ _ => rfl))))
    (pss_one (ps_ret pe_bl))
    pss_nil))
    (pss_one (ps_if (L2.PW.pt (pw_or (pt_not (pt_val (pe_call (G__law_is_whole) (hr.mono (by omega)) rfl T.m__law_is_whole T.F__law_is_whole.kp T.b__law_is_whole .nil pass0 (pa_cons (pe_ix ix_tup (pv 4) (pv 6) (fun _ _ => rfl)) (pa_cons (pe_callB call_len_seq (by rfl) T.n_len (by decide +kernel) (pa_cons (pv 2) pa_nil)) pa_nil))))) (pw_or1 (pt_cmpR (op_notInD (u65 hr)) (pe_tupN (pa_cons (pe_ix ix_tup (pv 4) (pv 6) (fun _ _ => rfl)) (pa_cons (pv 6) pa_nil))) (pv 5) (by rfl)))))
    (pss_one (ps_ret pe_bl))
    pss_nil)))))
  (pss_cons (ps_set (i := 7) sc__law_is_tree.nd rfl (Or.inr rfl) (pe_lstN (pa_cons (pe_ix ix_tup (pv 1) (pv 3) (fun _ _ => rfl)) pa_nil)))
  (pss_cons (ps_for PassesOwn.never rfl (pi_range1 rfl T.n_range (pa_cons (pe_callB call_len_seq (by rfl) T.n_len (by decide +kernel) (pa_cons (pv 2) pa_nil)) pa_nil)) (pg_name (i := 8) sc__law_is_tree.nd rfl (Or.inl rfl))
    (pss_one (ps_set (i := 7) sc__law_is_tree.nd rfl (Or.inr rfl) (pe_op op_catLN (pv 7) (pe_lc (own := [("_law_x", 6)]) (g := (gName 6)) rfl sc__law_is_tree.nd (pi_range1 rfl T.n_range (pa_cons (pe_callB call_len_seq (by rfl) T.n_len (by decide +kernel) (pa_cons (pv 2) pa_nil)) pa_nil)) (blkOk_by (N := N__law_is_tree) (sc := defScope s__law_is_tree) (by decide +kernel)) (fun _ _ _ _ _ => (pg_name (i := 6) sc__law_is_tree.nd rfl (by first | exact Or.inl rfl | exact Or.inr rfl))) (fun _ _ _ _ _ => (pts_one (L2.PW.pt (pw_and (pt_cmpR (k_op_notIn_seq K) (pv 6) (pv 7) (by rfl)) (pw_and (pt_cmp (pc_notN (pe_ix (k_ix_tup K) (pv 4) (pv 6) (fun _ _ => rfl)))) (pw_and1 (pt_cmpR (k_op_in_seq K) (pe_ix (k_ix_tup K) (pv 4) (pv 6) (fun _ _ => rfl)) (pv 7) (by rfl)))))))) (fun _ _ _ _ _ => (pv 6)))))))
  (pss_one (ps_ret (pe_callB (cr_all rfl) (by rfl) T.n_all (by decide +kernel) (pa_cons (pe_lc (own := [("_law_x", 6)]) (g := (gName 6)) rfl sc__law_is_tree.nd (pi_range1 rfl T.n_range (pa_cons (pe_callB call_len_seq (by rfl) T.n_len (by decide +kernel) (pa_cons (pv 2) pa_nil)) pa_nil)) (blkOk_by (N := N__law_is_tree) (sc := defScope s__law_is_tree) (by decide +kernel)) (fun _ _ _ _ _ => (pg_name (i := 6) sc__law_is_tree.nd rfl (by first | exact Or.inl rfl | exact Or.inr rfl))) (fun _ _ _ _ _ => (pts_one (pt_cmpR (k_op_in_seq K) (pv 3) (pe_ix (k_ix_tup K) (pv 2) (pv 6) (fun _ _ => rfl)) (by rfl)))) (fun _ _ _ _ _ => (pe_cmpR (k_op_in_seq K) (pv 6) (pv 7) (by rfl)))) pa_nil))))))))), ?_⟩
  walk_at "ws"
  refine ab_isi (ikT T) ha (.inr (.inr (.inr rfl))) ?_
  walk_at "ws"
  refine w_ite (fun e => ?_) (fun e => ?_)
  · refine w_iteE rfl ?_
    walk_at "ws"
    refine k _ _ .refl ⟨fun h => Bool.noConfusion h, ?_⟩
    rintro ⟨ts, rfl, _⟩
    cases e
  replace e : isT "tuple" t = true := by simpa using e
  obtain ⟨q, xs, ts, rfl, rfl, hq0, al⟩ := tup_of ha e
  clear e
  have hq : SqT K H q xs := .inl hq0
  rw [trOk_tup] at k
  walk_at "ws"
  refine ⟨q, _, rfl, .inr hq, ?_⟩
  walk_at "ws"
  refine ⟨dp, _, rfl, .inr hbd, ?_⟩
  walk_at "ws"
  rw [List.length_map, lbd, hn, al.length]
  refine w_ite (fun e => ?_) (fun e => ?_)
  · walk_at "ws"
    refine k _ _ .refl ⟨fun h => Bool.noConfusion h, fun h => ?_⟩
    have e : ¬ ((ts.length : Int) = n) := by simpa using e
    exact absurd h.1 (by omega)
  have lt : ts.length = n := by
    have e : (ts.length : Int) = n := by simpa using e
    omega
  clear e
  have lx : xs.length = n := by rw [al.length, lt]
  walk_at "ws"
  refine ⟨wa, dp, p, m, bs, W, ws, ds, rfl, hwa, tup, web, hdia, rec, lm, fun g xg H1 hg g1 h1 dpg => ?_⟩
  walk_at "ws"
  refine ⟨dp, _, rfl, .inr (sqT_t g1.tups hbd), ?_⟩
  walk_at "ws"
  rw [List.length_map, lbd, hn]
  refine i_rng1 (by omega) (by omega) ?_
  rw [Int.toNat_natCast]
  have hold_at : ∀ {i : Nat} {d : List Int}, ds[i]? = some d → ((p : Int) ∈ d ↔ (i : Int) ∈ hold ds p) := fun {i d} hd => by
    rw [hold_mem]
    constructor
    · intro h
      exact ⟨i, rfl, (List.getElem?_eq_some_iff.mp hd).1, by rw [dAt_of hd]; exact h⟩
    · rintro ⟨y, e, _, h⟩
      have : y = i := by omega
      subst this
      rw [dAt_of hd] at h
      exact h
  refine for_it walk_range (fun i σ H' => ∃ u6, σ = [some (.ref wa), some (.ref vp), some (.ref dp), some (.int (p : Nat)), some (.ref q), some (.ref g), u6, none, none] ∧ G none H1 H' ∧ ∀ (j : Nat) t, j < i → ts[j]? = some t → OkAt (growL W ds p) w0 (hold ds p) j t) ⟨_, rfl, G.refl, fun j _ h => absurd h (Nat.not_lt_zero _)⟩ (fun _ _ _ _ _ => trivial) ?_ ?_
  · rintro i _ σ _ H2 hi ⟨u6, rfl, g2, okj⟩ ⟨rfl, rfl⟩
    show gName 6 (.int (0 + (i : Int))) _ _ _
    rw [Int.zero_add]
    have g02 := g1.trans g2
    have hq2 := sqT_t g02.tups hq
    obtain ⟨f, hf⟩ : ∃ f, bd[i]? = some f := ⟨_, List.getElem?_eq_getElem (by omega)⟩
    obtain ⟨d, hd⟩ : ∃ d, ds[i]? = some d := ⟨_, List.getElem?_eq_getElem (by omega)⟩
    obtain ⟨v1, hv1⟩ : ∃ v1, xs[i]? = some v1 := ⟨_, List.getElem?_eq_getElem (by omega)⟩
    obtain ⟨t1, ht1, ha1⟩ := al.get hv1
    have next : OkAt (growL W ds p) w0 (hold ds p) i t1 → ∀ (j : Nat) t, j < i + 1 → ts[j]? = some t → OkAt (growL W ds p) w0 (hold ds p) j t := fun o j t hj ht => by
      rcases Nat.lt_or_ge j i with c | c
      · exact okj j t c ht
      · obtain rfl : j = i := by omega
        rw [ht1] at ht
        cases ht
        exact o
    have no : ∀ {H'}, G none H H' → ¬ OkAt (growL W ds p) w0 (hold ds p) i t1 → Q (.bl false) H' := fun {H'} g' o => k _ _ g' ⟨fun h => Bool.noConfusion h, fun h => absurd (h.2.1 i t1 ht1) o⟩
    refine w_gname ?_
    dsimp only
    refine w_ifM (fun b H' => H' = H2 ∧ (b = true ↔ ((i : Int) = w0 ∨ (p : Int) ∉ d))) (fun N kN => ?_) ?_
    · walk_at "ws"
      refine r_ixT (sqT_t g02.tups hvp) (v := .int w0) (at_of (j := p) rfl (by rw [List.getElem?_map, hw0]; rfl)) ?_
      walk_at "ws"
      refine w_ite (fun e => ?_) (fun e => ?_)
      · have e : (i : Int) = w0 := of_decide_eq_true e
        exact kN _ _ ⟨rfl, by simp [e]⟩
      · have e : ¬ (i : Int) = w0 := of_decide_eq_false e
        walk_at "ws"
        refine r_ixT (sqT_t g02.tups hbd) (v := .ref f) (at_of (j := i) rfl (by rw [List.getElem?_map, hf]; rfl)) ?_
        refine ⟨f, _, rfl, .inr ((hfd i f d hf hd).n g02).sq, rfl, flat_ints d, ?_⟩
        rw [inV_ints]
        refine ⟨_, rfl, ?_⟩
        exact kN _ _ ⟨rfl, by simp [e]⟩
    · rintro b _ ⟨rfl, hb⟩
      refine w_ite (fun e => ?_) (fun e => ?_)
      · have hb := hb.mp e
        rw [hold_at hd] at hb
        walk_at "ws"
        refine r_ixT hq2 (v := v1) (at_of (j := i) rfl hv1) ?_
        walk_at "ws"
        refine w_ite (fun e => ?_) (fun e => ?_)
        · walk_at "ws"
          refine no g02 ?_
          rintro (⟨rfl, _⟩ | ⟨_, _, c1, c2, _⟩)
          · exact absurd ((ab_non ha1).mpr rfl) (by simpa using e)
          · rcases hb with z | z
            · exact c1 z
            · exact z c2
        · have e1 : t1 = .non := (ab_non ha1).mp (by simpa using e)
          walk_at "ws"
          exact ⟨_, rfl, g2, next (.inl ⟨e1, hb⟩)⟩
      · have np : ¬ ((i : Int) = w0 ∨ (p : Int) ∉ d) := fun z => by rw [hb.mpr z] at e; cases e
        have n1 : (i : Int) ≠ w0 := fun z => np (.inl z)
        have n2 : (p : Int) ∈ d := Classical.byContradiction fun z => np (.inr z)
        rw [hold_at hd] at n2
        have nn : OkAt (growL W ds p) w0 (hold ds p) i t1 → ∃ y, t1 = .int y ∧ (y, (i : Int)) ∈ growL W ds p := by
          rintro (⟨_, z⟩ | ⟨y, z1, _, _, z2⟩)
          · rcases z with z | z
            · exact absurd z n1
            · exact absurd n2 z
          · exact ⟨y, z1, z2⟩
        walk_at "ws"
        refine r_ixT hq2 (v := v1) (at_of (j := i) rfl hv1) ?_
        walk_at "ws"
        refine ⟨dp, _, rfl, .inr (sqT_t g02.tups hbd), ?_⟩
        walk_at "ws"
        rw [List.length_map, lbd, hn]
        refine ⟨n, hd9, v1, t1, rfl, ha1.n g02, ?_⟩
        refine ⟨_, rfl, ?_⟩
        refine w_ite (fun e => ?_) (fun e => ?_)
        · refine w_iteE rfl ?_
          walk_at "ws"
          refine no g02 fun o => ?_
          obtain ⟨y, rfl, h2⟩ := nn o
          have b := growL_bd web ds _ _ h2
          have : blw n (.int y) = true := by
            simp only [blw, Bool.and_eq_true, decide_eq_true_eq]
            have b1 : 0 ≤ y ∧ y < m := b.1
            omega
          rw [this] at e
          cases e
        replace e : blw n t1 = true := by simpa using e
        obtain ⟨y, rfl⟩ := blw_int e
        cases ab_int ha1
        walk_at "ws"
        refine r_ixT hq2 (v := .int y) (at_of (j := i) rfl hv1) ?_
        walk_at "ws"
        refine ⟨sz (by simp), fun t3 H3 ht3 g3 h3 => ?_⟩
        have g13 := g2.trans (g3 none)
        walk_at "ws"
        refine ⟨dP (y, (i : Int)), (growL W ds p).map dP, dp_ofP (SqT.of h3), .lst (SqL.of (g13.all _ _ h1)) (dpAll_t g13.tups _ _ (nls_pairs _) dpg), sh_dP _, sh_pairsL _, ?_⟩
        rw [any_dP]
        refine ⟨_, rfl, ?_⟩
        refine w_ite (fun e => ?_) (fun e => ?_)
        · have e : (y, (i : Int)) ∉ growL W ds p := by simpa using e
          walk_at "ws"
          refine no (g1.trans g13) fun o => ?_
          obtain ⟨y', z1, h2⟩ := nn o
          cases z1
          exact e h2
        · have e : (y, (i : Int)) ∈ growL W ds p := by simpa using e
          walk_at "ws"
          exact ⟨_, rfl, g13, next (.inr ⟨y, rfl, n1, n2, e⟩)⟩
  · rintro σ H2 ⟨u6, rfl, g2, okj⟩
    have g02 := g1.trans g2
    have okA : ∀ (j : Nat) t, ts[j]? = some t → OkAt (growL W ds p) w0 (hold ds p) j t := fun j t h => okj j t (by have := (List.getElem?_eq_some_iff.mp h).1; omega) h
    clear okj
    walk_at "ws"
    refine r_ixT (sqT_t g02.tups hvp) (v := .int w0) (at_of (j := p) rfl (by rw [List.getElem?_map, hw0]; rfl)) ?_
    walk_at "ws"
    refine ⟨sz (by simp), fun h0 H3 hh0 g3 h3 => ?_⟩
    have g03 := g02.trans (g3 none)
    walk_at "ws"
    refine ⟨dp, _, rfl, .inr (sqT_t g03.tups hbd), ?_⟩
    walk_at "ws"
    rw [List.length_map, lbd, hn]
    refine i_rng1 (by omega) (by omega) ?_
    rw [Int.toNat_natCast]
    refine for_it walk_range (fun i σ H' => ∃ (ha : Addr) (u8 : Option V), σ = [some (.ref wa), some (.ref vp), some (.ref dp), some (.int (p : Nat)), some (.ref q), some (.ref g), u6, some (.ref ha), u8] ∧ G none H3 H' ∧ H' ha = some (.lst ((hmT ts w0 n i).map V.int))) ⟨h0, _, rfl, G.refl, h3⟩ (fun _ _ _ _ _ => trivial) ?_ ?_
    · rintro i _ σ _ H4 hi ⟨ha, u8, rfl, g4, h4⟩ ⟨rfl, rfl⟩
      have g04 := g03.trans g4
      have lh := hm_len ts w0n i
      show gName 8 _ _ _ _
      walk_at "ws"
      refine ⟨dp, _, rfl, .inr (sqT_t g04.tups hbd), ?_⟩
      walk_at "ws"
      rw [List.length_map, lbd, hn]
      refine i_rng1 (by omega) (by omega) ?_
      rw [Int.toNat_natCast]
      intro R hR
      refine lc_it walk_range (fun j H' => G none H4 H' ∧ H' R = some (.lst ((esT ts (hmT ts w0 n i) j).map V.int))) ⟨(G.refl).mut hR (fun _ e => nomatch e), upd_same⟩ (fun _ _ _ _ => trivial) ?_ ?_
      · rintro j _ _ H5 hj ⟨g5, h5⟩ ⟨rfl, rfl⟩
        show gName 6 (.int (0 + (j : Int))) _ _ _
        rw [Int.zero_add]
        generalize hmT ts w0 n i = hs at *
        have h5a := g5.all _ _ h4
        have hq5 := sqT_t (g04.trans g5).tups hq
        have le := esT_len ts hs j
        obtain ⟨v1, hv1⟩ : ∃ v1, xs[j]? = some v1 := ⟨_, List.getElem?_eq_getElem (by omega)⟩
        obtain ⟨t1, ht1, ha1⟩ := al.get hv1
        have skip : ((j : Int) ∉ hs → ∀ h, ts[j]? = some (.int h) → h ∈ hs → False) → G none H4 H5 ∧ H5 R = some (.lst ((esT ts hs (j + 1)).map V.int)) := fun no => ⟨g5, by rw [esT_skip no]; exact h5⟩
        walk_at "ws"
        refine ⟨rfl, ?_⟩
        walk_at "ws"
        refine ⟨ha, _, rfl, .inl (SqL.of h5a), rfl, flat_ints hs, ?_⟩
        rw [inV_ints]
        refine ⟨_, rfl, ?_⟩
        refine w_ite (fun e => ?_) (fun e => ?_)
        · have e : ¬ (j : Int) ∈ hs := by simpa using e
          walk_at "ws"
          refine r_ixT hq5 (v := v1) (at_of (j := j) rfl hv1) ?_
          walk_at "ws"
          rcases okA j t1 ht1 with ⟨rfl, _⟩ | ⟨h, rfl, _⟩
          · obtain rfl : v1 = .non := (ab_non ha1).mpr rfl
            refine w_iteN (by simp) ?_
            refine w_iteN rfl ?_
            exact skip fun _ h z _ => by rw [ht1] at z; cases z
          · cases ab_int ha1
            refine w_iteE (by simp) ?_
            walk_at "ws"
            refine r_ixT hq5 (v := .int h) (at_of (j := j) rfl hv1) ?_
            walk_at "ws"
            refine ⟨ha, _, rfl, .inl (SqL.of h5a), rfl, flat_ints hs, ?_⟩
            rw [inV_ints]
            refine ⟨_, rfl, ?_⟩
            refine w_ite (fun b => ?_) (fun b => ?_)
            · have b : h ∈ hs := by simpa using b
              walk_at "ws"
              refine ⟨_, h5, Nat.lt_of_le_of_lt (by rw [List.length_map]; omega : ((esT ts hs j).map V.int).length ≤ 1000) (by decide), g5.mut hR (fun _ e => nomatch e), ?_⟩
              rw [upd_same, esT_in e ht1 b, List.map_append]; rfl
            · have b : ¬ h ∈ hs := by simpa using b
              exact skip fun _ h' z z2 => by
                rw [ht1] at z
                cases z
                exact b z2
        · have e : (j : Int) ∈ hs := by simpa using e
          refine w_iteN rfl ?_
          exact skip fun z _ _ _ => z e
      rintro H5 ⟨g5, h5⟩
      have le := esT_len ts (hmT ts w0 n i) n
      walk_at "ws"
      refine ⟨ha, R, _, _, rfl, rfl, g5.all _ _ h4, h5, by rw [List.length_map, List.length_map]; omega, fun h6a H6 hh6 g6 h6 => ?_⟩
      walk_at "ws"
      refine ⟨h6a, _, rfl, (g4.trans g5).trans (g6 none), ?_⟩
      rw [h6, ← List.map_append]; rfl
    · rintro σ H4 ⟨ha, u8, rfl, g4, h4⟩
      have g04 := g03.trans g4
      walk_at "ws"
      refine ⟨dp, _, rfl, .inr (sqT_t g04.tups hbd), ?_⟩
      walk_at "ws"
      rw [List.length_map, lbd, hn]
      refine i_rng1 (by omega) (by omega) ?_
      rw [Int.toNat_natCast]
      intro D hD
      refine lc_it walk_range (fun j H' => G none H4 H' ∧ BlA H' D j fun i => (i : Int) ∈ hold ds p → (i : Int) ∈ hmT ts w0 n n) ⟨(G.refl).mut hD (fun _ e => nomatch e), .nil⟩ (fun _ _ _ _ => trivial) ?_ ?_
      · rintro j _ _ H5 hj ⟨g5, bl⟩ ⟨rfl, rfl⟩
        show gName 6 (.int (0 + (j : Int))) _ _ _
        rw [Int.zero_add]
        have g05 := g04.trans g5
        obtain ⟨f, hf⟩ : ∃ f, bd[j]? = some f := ⟨_, List.getElem?_eq_getElem (by omega)⟩
        obtain ⟨d, hd⟩ : ∃ d, ds[j]? = some d := ⟨_, List.getElem?_eq_getElem (by omega)⟩
        walk_at "ws"
        refine ⟨rfl, ?_⟩
        walk_at "ws"
        refine r_ixT (sqT_t g05.tups hbd) (v := .ref f) (at_of (j := j) rfl (by rw [List.getElem?_map, hf]; rfl)) ?_
        refine ⟨f, _, rfl, .inr ((hfd j f d hf hd).n g05).sq, rfl, flat_ints d, ?_⟩
        rw [inV_ints]
        refine ⟨_, rfl, ?_⟩
        refine w_ite (fun e => ?_) (fun e => ?_)
        · have e : (j : Int) ∈ hold ds p := (hold_at hd).mp (by simpa using e)
          walk_at "ws"
          refine ⟨ha, _, rfl, .inl (SqL.of (g5.all _ _ h4)), rfl, flat_ints _, ?_⟩
          rw [inV_ints]
          obtain ⟨acc, r1, r2, r3⟩ := bl.app (c := decide ((j : Int) ∈ hmT ts w0 n n)) (by rw [decide_eq_true_iff]; exact ⟨fun h _ => h, fun h => h e⟩) (by omega)
          exact ⟨acc, r1, r2, g5.mut hD (fun _ e => nomatch e), r3⟩
        · have e : (j : Int) ∉ hold ds p := fun z => absurd ((hold_at hd).mpr z) (by simpa using e)
          exact ⟨g5, bl.skip fun z => absurd z e⟩
      rintro H5 ⟨g5, bl⟩
      obtain ⟨cs, c1, c2⟩ := bl.fin (K := K)
      walk_at "ws"
      refine ⟨D, cs, rfl, c1, ?_⟩
      refine k _ _ (g04.trans g5) ?_
      rw [c2]
      constructor
      · intro h
        refine ⟨lt, okA, fun z hz => ?_⟩
        obtain ⟨y, rfl, hy, _⟩ := hold_mem.mp hz
        exact (hm_iff ts w0n).mp (h y (by omega) hz)
      · intro h j _ hz
        exact (hm_iff ts w0n).mpr (h.2.2 _ hz)

end
end Mine
/-! ## K66 -/


namespace Mine
section
variable {P : Program} {w : World} {K : PySem.W.Frag} {mg : Str → Option Value} {base : Heap} {a : Ads}

/-! ### the law's own look at a bar of any kind -/
theorem sh_lI (ns : List Int) : SeqAt.shaped (.list (ns.map PyData.int)) = true := sh_of (by
    rw [PyData.canLay0]
    exact canAll fun d h => by
      obtain ⟨n, _, rfl⟩ := List.mem_map.mp h
      exact can_int) (by
    rw [PyData.depth]
    have := depAll (n := 0) (ds := ns.map PyData.int) fun d h => by
      obtain ⟨n, _, rfl⟩ := List.mem_map.mp h
      rw [dep_int]; exact Nat.le_refl _
    omega)
theorem eqv_lI (ns ms : List Int) : PyData.eqv (.list (ns.map PyData.int)) (.list (ms.map PyData.int)) = decide (ns = ms) := by
  rw [PyData.eqv]; exact eqvAll_map (fun _ _ => eqv_int) ns ms
theorem asc_eq {l l' : List Int} (h : l.Pairwise (· < ·)) (h' : l'.Pairwise (· < ·)) (m : ∀ z, z ∈ l ↔ z ∈ l') : l = l' := by
  have n : l.Nodup := h.imp fun h => by omega
  have n' : l'.Nodup := h'.imp fun h => by omega
  have pm := (List.perm_ext_iff_of_nodup n n').mpr m
  exact pm.eq_of_pairwise (fun a b _ _ h1 h2 => Int.le_antisymm h1 h2) (h.imp fun h => by omega) (h'.imp fun h => by omega)

def sa__law_bars (K : PySem.W.Frag) (C : Addr → Prop) : Sp := fun vs H Q _ => ∃ (wa vp dp hd9 : Addr) (v : V) (t : Tg) (m : Int) (bs : List Addr) (W : List (Int × Int)) (ws : List Int) (ds : List (List Int)), vs = [.ref wa, .ref vp, .ref dp, v] ∧ SqT K H wa (bs.map V.ref) ∧ TupAll H bs W ∧ IsWeb m W ∧ SqT K H vp (ws.map V.int) ∧ Dia K H dp ds ∧ IsRec ws ds ∧ ds.length = m.toNat ∧
  Ab C hd9 H v t ∧ smT t = true ∧ ∀ c H', G none H H' → (c = true ↔ BarOk W ws ds t) → Q (.bl c) H'
theorem oka__law_bars (T : Txt K mg a) : FnOk P w K mg base CX0 2 a.f__law_bars a.d__law_bars P__law_bars (sa__law_bars K (Cs a)) := by
  refine T.F__law_bars.ok sc__law_bars (fun vs H Q E h => by obtain ⟨wa, vp, dp, hd9, v, t, m, bs, W, ws, ds, rfl, _⟩ := h; rfl) (fun cdv A outer s H vs Q E hr h => ?_)
  obtain ⟨wa, vp, dp, hd9, v, t, m, bs, W, ws, ds, rfl, hwa, tup, web, hvp, hdia, rec, lm, ha, sm, k⟩ := h
  have m1 := web.lo
  have m7 := web.hi
  have l49 := isweb_len49 web
  have p30 := rec.p30
  obtain ⟨bd, hbd, lbd, hfd⟩ := id hdia
  have G__law_grow : FnOk P w K mg base CX0 1 a.f__law_grow a.d__law_grow P__law_grow (sp__law_grow K) := ok__law_grow T
  have G__law_is_whole : FnOk P w K mg base CX0 1 a.f__law_is_whole a.d__law_is_whole P__law_is_whole (sa__law_is_whole (Cs a)) := oka__law_is_whole T
  refine ⟨_, (pss_cons (ps_if (L2.PW.pt (pw_or (pt_not (pt_val (pe_callB call_isi (by rfl) T.n_isinstance (by decide +kernel) (pa_cons (pv 3) (pa_cons (pe_bltn (v := .ty "tuple") (u := .type "tuple") rfl T.n_tuple (by decide +kernel) rfl) pa_nil))))) (pw_or (pt_cmpR op_ne (pe_callB call_len_seq (by rfl) T.n_len (by decide +kernel) (pa_cons (pv 3) pa_nil)) pe_int (nomark _)) (pw_or1 (pt_not (pt_val (pe_call (G__law_is_whole) (hr.mono (by omega)) rfl T.m__law_is_whole T.F__law_is_whole.kp T.b__law_is_whole .nil pass0 (pa_cons (pe_ix ix_tup (pv 3) pe_int (fun _ _ => rfl)) (pa_cons (pe_callB call_len_seq (by rfl) T.n_len (by decide +kernel) (pa_cons (pv 1) pa_nil)) pa_nil)))))))))
    (pss_one (ps_ret pe_bl))
    pss_nil)
  (pss_cons (ps_asg (pv 3) (pg_tup rfl (pgs_cons (pg_name (i := 4) sc__law_bars.nd rfl (Or.inr rfl)) (pgs_cons (pg_name (i := 5) sc__law_bars.nd rfl (Or.inr rfl)) pgs_nil))))
  (pss_cons (ps_if (L2.PW.pt (pw_or (pt_not (pt_val (pe_callB call_isi (by rfl) T.n_isinstance (by decide +kernel) (pa_cons (pv 5) (pa_cons (pe_bltn (v := .ty "tuple") (u := .type "tuple") rfl T.n_tuple (by decide +kernel) rfl) pa_nil))))) (pw_or (pt_cmpR op_eq (pe_callB call_len_seq (by rfl) T.n_len (by decide +kernel) (pa_cons (pv 5) pa_nil)) pe_int (nomark _)) (pw_or1 (pt_not (pt_val (pe_callB (cr_all rfl) (by rfl) T.n_all (by decide +kernel) (pa_cons (pe_lc (own := [("_law_x", 7)]) (g := (gName 7)) (tt := tYes) rfl sc__law_bars.nd (pi_tup (pv 5)) (blkOk_by (N := N__law_bars) (sc := defScope s__law_bars) (by decide +kernel)) (fun _ _ _ _ _ => (pg_name (i := 7) sc__law_bars.nd rfl (by first | exact Or.inl rfl | exact Or.inr rfl))) (fun _ _ _ _ _ => pts_nil) (fun _ _ _ _ _ => (pe_call (G__law_is_whole) (hr.mono (by omega)) rfl T.m__law_is_whole T.F__law_is_whole.kp T.b__law_is_whole .nil pass0 (pa_cons (pv 7) (pa_cons (pe_callB (k_call_len_seq K) (by rfl) T.n_len (by decide +kernel) (pa_cons (pv 2) pa_nil)) pa_nil))))) pa_nil))))))))
    (pss_one (ps_ret pe_bl))
    pss_nil)
  (pss_cons (ps_if (L2.PW.pt (pw_or (pt_cmpR (op_neD hr.units) (pe_callB (cr_sortSI rfl) (by rfl) T.n_sorted (by decide +kernel) (pa_cons (pe_callTy (cr_setTI rfl) (by rfl) T.n_set (by decide +kernel) (pa_cons (pv 5) pa_nil)) pa_nil)) (pe_callTy call_listN (by rfl) T.n_list (by decide +kernel) (pa_cons (pv 5) pa_nil)) (nomark _)) (pw_or (pt_cmpR op_in_seq (pe_ix ix_tup (pv 1) (pv 4) (fun _ _ => rfl)) (pv 5) (by rfl)) (pw_or1 (pt_not (pt_val (pe_callB (cr_all rfl) (by rfl) T.n_all (by decide +kernel) (pa_cons (pe_lc (own := [("_law_x", 7)]) (g := (gName 7)) (tt := tYes) rfl sc__law_bars.nd (pi_tup (pv 5)) (blkOk_by (N := N__law_bars) (sc := defScope s__law_bars) (by decide +kernel)) (fun _ _ _ _ _ => (pg_name (i := 7) sc__law_bars.nd rfl (by first | exact Or.inl rfl | exact Or.inr rfl))) (fun _ _ _ _ _ => pts_nil) (fun _ _ _ _ _ => (pe_cmpR (k_op_in_seq K) (pv 4) (pe_ix (k_ix_tup K) (pv 2) (pv 7) (fun _ _ => rfl)) (by rfl)))) pa_nil))))))))
    (pss_one (ps_ret pe_bl))
    pss_nil)
  (pss_one (ps_ret (pe_not (pe_callB (cr_any rfl) (by rfl) T.n_any (by decide +kernel) (pa_cons (pe_lc (own := [("_law_y", 6), ("_law_x", 7)]) (g := (gTup K 2 (gCons (gName 6) (gCons (gName 7) gNil)))) (tt := tYes) rfl sc__law_bars.nd (pi_list (pe_call (G__law_grow) (hr.mono (by omega)) rfl T.m__law_grow T.F__law_grow.kp T.b__law_grow .nil pass0 (pa_cons (pv 0) (pa_cons (pv 2) (pa_cons (pv 4) pa_nil))))) (blkOk_by (N := N__law_bars) (sc := defScope s__law_bars) (by decide +kernel)) (fun _ _ _ _ _ => (pg_tup rfl (pgs_cons (pg_name (i := 6) sc__law_bars.nd rfl (by first | exact Or.inl rfl | exact Or.inr rfl)) (pgs_cons (pg_name (i := 7) sc__law_bars.nd rfl (by first | exact Or.inl rfl | exact Or.inr rfl)) pgs_nil)))) (fun _ _ _ _ _ => pts_nil) (fun _ _ _ _ _ => (pe_and (pe_cmpR (k_op_in_seq K) (pv 7) (pv 5) (by rfl)) (pe_one (pe_cmpR (k_op_notIn_seq K) (pv 6) (pv 5) (by rfl)))))) pa_nil))))))))), ?_⟩
  walk_at "ws"
  refine ab_isi (ikT T) ha (.inr (.inr (.inr rfl))) ?_
  walk_at "ws"
  refine w_ite (fun e => ?_) (fun e => ?_)
  · refine w_iteE rfl ?_
    walk_at "ws"
    refine k _ _ .refl ⟨fun h => Bool.noConfusion h, ?_⟩
    rintro ⟨p, lot, rfl, _⟩
    cases e
  replace e : isT "tuple" t = true := by simpa using e
  obtain ⟨tp, xs, ts, rfl, rfl, rt, al⟩ := tup_of ha e
  clear e
  walk_at "ws"
  refine ⟨tp, _, rfl, .inr (.inl rt), ?_⟩
  walk_at "ws"
  rw [al.length]
  refine w_ite (fun e => ?_) (fun e => ?_)
  · refine w_iteE rfl ?_
    walk_at "ws"
    refine k _ _ .refl ⟨fun h => Bool.noConfusion h, ?_⟩
    rintro ⟨p, lot, e1, _⟩
    injection e1 with e1
    rw [e1] at e
    simp at e
  have e2 : ts.length = 2 := by
    have e : (ts.length : Int) = 2 := by simpa using e
    omega
  obtain ⟨t1, t2, rfl⟩ : ∃ t1 t2, ts = [t1, t2] := by
    match ts, e2 with
    | [t1, t2], _ => exact ⟨t1, t2, rfl⟩
  clear e2 e
  obtain ⟨v1, v2, rfl, ha1, ha2⟩ : ∃ v1 v2, xs = [v1, v2] ∧ Ab (Cs a) hd9 H v1 t1 ∧ Ab (Cs a) hd9 H v2 t2 := by
    cases al with
    | cons h1 al =>
      cases al with
      | cons h2 al =>
        cases al
        exact ⟨_, _, rfl, h1, h2⟩
  have ht : SqT K H tp [v1, v2] := .inl rt
  have sm2 := (smT_tup sm).2 t2 (by simp)
  walk_at "ws"
  refine r_ixT ht (v := v1) rfl ?_
  walk_at "ws"
  refine ⟨vp, _, rfl, .inr hvp, ?_⟩
  walk_at "ws"
  rw [List.length_map]
  refine ⟨_, hd9, v1, t1, rfl, ha1, ?_⟩
  refine ⟨_, rfl, ?_⟩
  refine w_ite (fun e => ?_) (fun e => ?_)
  · walk_at "ws"
    refine k _ _ .refl ⟨fun h => Bool.noConfusion h, fun h => ?_⟩
    obtain ⟨p, lot, rfl, _, hp, _⟩ := bar_two h
    have : blw ws.length (.int (p : Nat)) = true := by simp only [blw, Bool.and_eq_true, decide_eq_true_eq]; omega
    rw [this] at e
    cases e
  replace e : blw ws.length t1 = true := by simpa using e
  obtain ⟨i, rfl⟩ := blw_int e
  simp only [blw, Bool.and_eq_true, decide_eq_true_eq] at e
  obtain ⟨p, rfl⟩ : ∃ p : Nat, i = (p : Nat) := ⟨i.toNat, by omega⟩
  have hp : p < ws.length := by omega
  clear e
  have gl := growL_len W ds (p : Nat)
  obtain ⟨w0, hw0⟩ : ∃ w0, ws[p]? = some w0 := ⟨_, List.getElem?_eq_getElem hp⟩
  cases ab_int ha1
  walk_at "ws"
  refine ⟨tp, _, rfl, ht, rfl, ?_⟩
  refine ⟨_, _, rfl, ?_⟩
  walk_at "ws"
  refine ⟨_, _, rfl, ?_⟩
  walk_at "ws"
  refine ⟨rfl, ?_⟩
  walk_at "ws"
  refine ab_isi (ikT T) ha2 (.inr (.inr (.inr rfl))) ?_
  walk_at "ws"
  refine w_ite (fun e => ?_) (fun e => ?_)
  · refine w_iteE rfl ?_
    walk_at "ws"
    refine k _ _ .refl ⟨fun h => Bool.noConfusion h, fun h => ?_⟩
    obtain ⟨_, lot, _, rfl, _⟩ := bar_two h
    cases e
  replace e : isT "tuple" t2 = true := by simpa using e
  obtain ⟨t1, xs2, us, rfl, rfl, rt1, al2⟩ := tup_of ha2 e
  clear e
  have lz := (smT_tup sm2).1
  have lx2 := al2.length
  have ht1 : SqT K H t1 xs2 := .inl rt1
  walk_at "ws"
  refine ⟨t1, _, rfl, .inr ht1, ?_⟩
  walk_at "ws"
  rw [lx2]
  refine w_ite (fun e => ?_) (fun e => ?_)
  · refine w_iteE rfl ?_
    walk_at "ws"
    refine k _ _ .refl ⟨fun h => Bool.noConfusion h, fun h => ?_⟩
    obtain ⟨_, lot, _, e1, _, ne, _⟩ := bar_two h
    injection e1 with e1
    rw [e1, List.length_map] at e
    have e : (lot.length : Int) = 0 := by simpa using e
    exact absurd (List.eq_nil_of_length_eq_zero (by omega)) ne
  have ne : us.length ≠ 0 := by
    have e : ¬ (us.length : Int) = 0 := by simpa using e
    omega
  clear e
  walk_at "ws"
  refine i_tup ht1 ?_
  intro D hD
  refine lc_it (walk_tup (xs := xs2)) (fun i H' => G none H H' ∧ BlA H' D i fun j => ∀ u, us[j]? = some u → blw ds.length u = true) ⟨(G.refl).mut hD (fun _ e => nomatch e), .nil⟩ (fun i H' _ g => sqT_t g.1.tups ht1) ?_ ?_
  · rintro i v _ H4 hi ⟨g4, bl⟩ ⟨rfl, hv⟩
    obtain ⟨u1, hu1, hau⟩ := al2.get hv
    show gName 7 _ _ _ _
    walk_at "ws"
    refine ⟨rfl, ?_⟩
    walk_at "ws"
    refine ⟨dp, _, rfl, .inr (sqT_t g4.tups hbd), ?_⟩
    walk_at "ws"
    rw [List.length_map, lbd]
    refine ⟨_, hd9, v, u1, rfl, hau.n g4, ?_⟩
    obtain ⟨acc, q1, q2, q3⟩ := bl.app (c := blw ds.length u1) ⟨fun h u z => by rw [hu1] at z; cases z; exact h, fun h => h _ hu1⟩ (by omega)
    exact ⟨acc, q1, q2, g4.mut hD (fun _ e => nomatch e), q3⟩
  rintro H0 ⟨g0, bl⟩
  obtain ⟨cs, c1, c2⟩ := bl.fin (K := K)
  walk_at "ws"
  refine ⟨D, cs, rfl, c1, ?_⟩
  refine ⟨_, rfl, ?_⟩
  refine w_ite (fun e => ?_) (fun e => ?_)
  · walk_at "ws"
    refine k _ _ g0 ⟨fun h => Bool.noConfusion h, fun h => ?_⟩
    obtain ⟨_, lot, _, e1, _, _, _, mem, _⟩ := bar_two h
    injection e1 with e1
    have : cs.all id = true := c2.mpr fun j _ u hu => by
      rw [e1, List.getElem?_map] at hu
      obtain ⟨z, hz, rfl⟩ := Option.map_eq_some_iff.mp hu
      obtain ⟨y, rfl, hy, _⟩ := hold_mem.mp (mem z (List.mem_of_getElem? hz))
      simp only [blw, Bool.and_eq_true, decide_eq_true_eq]
      omega
    rw [this] at e
    cases e
  replace e : cs.all id = true := by simpa using e
  have bel := c2.mp e
  clear bl c1 c2 e cs hD D
  obtain ⟨ns, rfl, rfl⟩ := ints_of al2 fun u hu => by
    obtain ⟨j, hj, ej⟩ := List.getElem_of_mem hu
    exact blw_int (bel j (by omega) u (by rw [← ej]; exact List.getElem?_eq_getElem hj))
  have rng : ∀ z ∈ ns, 0 ≤ z ∧ z < ds.length := fun z hz => by
    obtain ⟨j, hj, ej⟩ := List.getElem_of_mem hz
    have := bel j (by rw [List.length_map]; omega) (.int z) (by rw [List.getElem?_map, List.getElem?_eq_getElem hj, ej]; rfl)
    simp only [blw, Bool.and_eq_true, decide_eq_true_eq] at this
    exact this
  rw [List.length_map] at lz ne
  clear bel
  have ht10 := sqT_t g0.tups ht1
  walk_at "ws"
  refine ⟨t1, ns, rfl, ht10, by omega, fun sa c H1 hsa hc g1 h1 => ?_⟩
  walk_at "ws"
  refine ⟨sa, _, c, rfl, h1, by omega, fun ms la H2 nsa nsm g2 h2 => ?_⟩
  have g02 := g0.trans ((g1 none).trans (g2 none))
  walk_at "ws"
  refine ⟨t1, _, rfl, .inr (sqT_t g02.tups ht1), fun lb H3 hlb g3 h3 => ?_⟩
  have g03 := g02.trans (g3 none)
  have msq : ms = ns ↔ ns.Pairwise (· < ·) := ⟨fun e => e ▸ nsa, fun asc => asc_eq nsa asc fun z => by rw [nsm z, decide_eq_true_iff]⟩
  refine ⟨.list (ms.map PyData.int), .list (ns.map PyData.int), .lst (SqL.of ((g3 none).all _ _ h2)) (DpAll.ints ms), .lst (SqL.of h3) (DpAll.ints ns), sh_lI _, sh_lI _, ?_⟩
  rw [eqv_lI]
  refine ⟨_, rfl, ?_⟩
  refine w_ite (fun e => ?_) (fun e => ?_)
  · refine w_iteE rfl ?_
    walk_at "ws"
    refine k _ _ g03 ⟨fun h => Bool.noConfusion h, fun h => ?_⟩
    have e : ¬ ms = ns := by simpa using e
    exact absurd (msq.mpr (bar_three h).2.2.1) e
  have asc : ns.Pairwise (· < ·) := msq.mp (by simpa using e)
  clear e
  walk_at "ws"
  refine r_ixT (sqT_t g03.tups hvp) (v := .int w0) (at_of (j := p) rfl (by rw [List.getElem?_map, hw0]; rfl)) ?_
  walk_at "ws"
  have ht13 := sqT_t g03.tups ht1
  refine ⟨t1, _, rfl, .inr ht13, rfl, flat_ints ns, ?_⟩
  rw [inV_ints]
  refine ⟨_, rfl, ?_⟩
  refine w_ite (fun e => ?_) (fun e => ?_)
  · refine w_iteE rfl ?_
    walk_at "ws"
    refine k _ _ g03 ⟨fun h => Bool.noConfusion h, fun h => ?_⟩
    exact absurd (of_decide_eq_true e) ((bar_three h).2.2.2.2.1 w0 hw0)
  have own : w0 ∉ ns := of_decide_eq_false e
  clear e
  walk_at "ws"
  refine i_tup ht13 ?_
  intro D hD
  refine lc_it (walk_tup (xs := ns.map V.int)) (fun i H' => G none H3 H' ∧ BlA H' D i fun j => ∀ z, ns[j]? = some z → z ∈ hold ds p) ⟨(G.refl).mut hD (fun _ e => nomatch e), .nil⟩ (fun i H' _ g => sqT_t g.1.tups ht13) ?_ ?_
  · rintro i v _ H4 hi ⟨g4, bl⟩ ⟨rfl, hv⟩
    rw [List.length_map] at hi
    rw [List.getElem?_map] at hv
    obtain ⟨z, hz, rfl⟩ := Option.map_eq_some_iff.mp hv
    have zr := rng z (List.mem_of_getElem? hz)
    obtain ⟨x, rfl⟩ : ∃ x : Nat, z = (x : Nat) := ⟨z.toNat, by omega⟩
    obtain ⟨f, hf⟩ : ∃ f, bd[x]? = some f := ⟨_, List.getElem?_eq_getElem (by omega)⟩
    obtain ⟨d, hd⟩ : ∃ d, ds[x]? = some d := ⟨_, List.getElem?_eq_getElem (by omega)⟩
    have g04 := g03.trans g4
    walk_at "ws"
    refine ⟨rfl, ?_⟩
    walk_at "ws"
    refine r_ixT (sqT_t g04.tups hbd) (v := .ref f) (at_of (j := x) rfl (by rw [List.getElem?_map, hf]; rfl)) ?_
    refine ⟨f, _, rfl, .inr ((hfd x f d hf hd).n g04).sq, rfl, flat_ints d, ?_⟩
    rw [inV_ints]
    have iff_ : (p : Int) ∈ d ↔ ((x : Nat) : Int) ∈ hold ds p := by
      rw [hold_mem]
      constructor
      · intro h
        exact ⟨x, rfl, by omega, by rw [dAt_of hd]; exact h⟩
      · rintro ⟨y, e, _, h⟩
        have : y = x := by omega
        subst this
        rw [dAt_of hd] at h
        exact h
    obtain ⟨acc, q1, q2, q3⟩ := bl.app (c := decide ((p : Int) ∈ d)) (by
      rw [decide_eq_true_iff, iff_]
      exact ⟨fun h z' hz' => by rw [hz] at hz'; cases hz'; exact h, fun h => h _ hz⟩) (by omega)
    exact ⟨acc, q1, q2, g4.mut hD (fun _ e => nomatch e), q3⟩
  rintro H4 ⟨g4, bl⟩
  rw [List.length_map] at bl
  obtain ⟨cs, c1, c2⟩ := bl.fin (K := K)
  have g04 := g03.trans g4
  walk_at "ws"
  refine ⟨D, cs, rfl, c1, ?_⟩
  refine ⟨_, rfl, ?_⟩
  refine w_ite (fun e => ?_) (fun e => ?_)
  · walk_at "ws"
    refine k _ _ g04 ⟨fun h => Bool.noConfusion h, fun h => ?_⟩
    have := (bar_three h).2.2.2.1
    rw [c2.mpr fun j _ z hz => this z (List.mem_of_getElem? hz)] at e
    cases e
  replace e : cs.all id = true := by simpa using e
  have mem : ∀ z ∈ ns, z ∈ hold ds p := fun z hz => by
    obtain ⟨j, hj, ej⟩ := List.getElem_of_mem hz
    exact c2.mp e j hj z (by rw [← ej]; exact List.getElem?_eq_getElem hj)
  clear bl c1 c2 cs e
  walk_at "ws"
  refine ⟨wa, dp, p, m, bs, W, ws, ds, rfl, sqT_t g04.tups hwa, tup.g g04 (fun _ e => nomatch e), web, hdia.n g04, rec, lm, fun l5 xs H5 hl5 g5 h5 dp5 => ?_⟩
  walk_at "ws"
  refine i_list (SqL.of h5) ?_
  intro D2 hD2
  have lxs := DpAll.length dp5
  rw [List.length_map] at lxs
  refine lc_it (walk_list (xs := xs)) (fun i H' => G none H5 H' ∧ BlE H' D2 i fun j => ∃ u, (growL W ds (p : Nat))[j]? = some u ∧ u.2 ∈ ns ∧ u.1 ∉ ns) ⟨(G.refl).mut hD2 (fun _ e => nomatch e), .nil⟩ (fun i H' _ g => sqL_n g.1 (SqL.of h5)) ?_ ?_
  · rintro i v _ H6 hi ⟨g6, bl⟩ ⟨rfl, hv⟩
    obtain ⟨d, hd, hvd⟩ := DpAll.get dp5 hv
    rw [List.getElem?_map] at hd
    obtain ⟨u, hu, rfl⟩ := Option.map_eq_some_iff.mp hd
    obtain ⟨tt, rfl, htt⟩ := dp_dP hvd
    have ht16 := sqT_t ((g4.trans g5).trans g6).tups ht13
    refine ⟨tt, _, rfl, sqT_t g6.tups htt, rfl, ?_⟩
    refine ⟨_, _, rfl, ?_⟩
    walk_at "ws"
    refine ⟨_, _, rfl, ?_⟩
    walk_at "ws"
    refine ⟨rfl, rfl, ?_⟩
    walk_at "ws"
    refine ⟨t1, _, rfl, .inr ht16, rfl, flat_ints ns, ?_⟩
    rw [inV_ints]
    refine ⟨_, rfl, ?_⟩
    refine w_ite (fun e => ?_) (fun e => ?_)
    · have e : u.2 ∈ ns := by simpa using e
      walk_at "ws"
      refine ⟨t1, _, rfl, .inr ht16, rfl, flat_ints ns, ?_⟩
      rw [inV_ints]
      obtain ⟨acc, q1, q2, q3⟩ := bl.app (c := !decide (u.1 ∈ ns)) (by
        rw [Bool.not_eq_true', decide_eq_false_iff_not]
        exact ⟨fun h => ⟨u, hu, e, h⟩, fun ⟨u', hu', _, h⟩ => by rw [hu] at hu'; cases hu'; exact h⟩) (by omega)
      exact ⟨acc, q1, q2, g6.mut hD2 (fun _ e => nomatch e), q3⟩
    · have e : u.2 ∉ ns := by simpa using e
      obtain ⟨acc, q1, q2, q3⟩ := bl.app (c := false) ⟨fun h => Bool.noConfusion h, fun ⟨u', hu', h, _⟩ => by rw [hu] at hu'; cases hu'; exact absurd h e⟩ (by omega)
      exact ⟨acc, q1, q2, g6.mut hD2 (fun _ e => nomatch e), q3⟩
  rintro H6 ⟨g6, bl⟩
  obtain ⟨cs, c1, c2⟩ := bl.fin (K := K)
  walk_at "ws"
  refine ⟨D2, cs, rfl, c1, ?_⟩
  refine ⟨_, rfl, ?_⟩
  refine k _ _ ((g04.trans g5).trans g6) ?_
  rw [Bool.not_eq_true', c2, lxs]
  constructor
  · intro h
    refine ⟨p, ns, rfl, hp, fun e => ne (by rw [e]; rfl), asc, mem, fun w hw => by rw [hw0] at hw; cases hw; exact own, fun u hu h2 => Classical.byContradiction fun n => ?_⟩
    obtain ⟨j, hj, ej⟩ := List.getElem_of_mem hu
    exact h j hj ⟨u, by rw [← ej]; exact List.getElem?_eq_getElem hj, h2, n⟩
  · intro h j _ ⟨u, hu, h2, n⟩
    exact n ((bar_three h).2.2.2.2.2 u (List.mem_of_getElem? hu) h2)

end
end Mine
/-! ## K67 -/


namespace Mine
section
variable {P : Program} {w : World} {K : PySem.W.Frag} {mg : Str → Option Value} {base : Heap} {a : Ads}

/-! ### _law_deep -/
theorem at_ab {C : Addr → Prop} {hd : Addr} {H : Hp} {xs : List V} {ts : List Tg} {r : Int} (h : AbAll C hd H xs ts) (r0 : 0 ≤ r) (r1 : r < xs.length) : ∃ v t, atI xs r = some v ∧ t ∈ ts ∧ Ab C hd H v t := by
  have l : r.toNat < xs.length := by omega
  obtain ⟨t, hm, ht⟩ := h.get (List.getElem?_eq_getElem l)
  exact ⟨_, t, at_of (j := r.toNat) (by omega) (List.getElem?_eq_getElem l), List.mem_of_getElem? hm, ht⟩
theorem ab_ins {C : Addr → Prop} {hd x c dx : Addr} {fs : List (Str × V)} {H : Hp} (hc : C c) (n : x ≠ hd) (h : H x = some (.ins c dx fs)) : Ab C hd H (.ref x) .oth := .oth n (.inr (.inr ⟨c, dx, fs, hc, h⟩))
theorem ab_lst {C : Addr → Prop} {hd x : Addr} {xs : List V} {H : Hp} (n : x ≠ hd) (h : H x = some (.lst xs)) : Ab C hd H (.ref x) .oth := .oth n (.inl ⟨xs, h⟩)
theorem ab_dK {C : Addr → Prop} {hd x : Addr} {xs : List (Key × V)} {H : Hp} (n : x ≠ hd) (h : H x = some (.dK xs)) : Ab C hd H (.ref x) .oth := .oth n (.inr (.inl ⟨xs, h⟩))
theorem w_dnew {o : Option (Addr × Addr)} {σ : L2.St} {H : Hp} {Q : VK} (q : ∀ p H1, H p = none → (∀ o, G o H H1) → H1 p = some (.dK []) → Q (.ref p) H1) : tDNewK σ H Q := fun p hp => q p _ hp (fun _ => G.alloc hp) upd_same
theorem w_disp1 {σ : L2.St} {H : Hp} {Q : VK} {k : Int} {i : Nat} {v : V} (e : σ[i]? = some (some v)) (q : ∀ p kvs H1, H p = none → (∀ o, G o H H1) → H1 p = some (.dK kvs) → Q (.ref p) H1) : tDisp [(tC (.int k), tVar i)] σ H Q := fun p hp =>
  ⟨v, e, upd_same, [(Sum.inl k, v)], rfl, by simp, q p _ _ hp (fun _ => G.of_all fun b u z => by rw [upd_ne (ne_of_none z hp), upd_ne (ne_of_none z hp)]; exact z) upd_same⟩
def sp__law_deep (C : Addr → Prop) : Sp := fun vs H Q _ => ∃ (hd c : Addr), vs = [.ref hd] ∧ Hand H hd c ∧ ∀ (v : V) (t : Tg) H', G (some (hd, c)) H H' → Hand H' hd c → Ab C hd H' v t → smT t = true → Q v H'
theorem ok__law_deep (T : Txt K mg a) : FnOk P w K mg base CX0 2 a.f__law_deep a.d__law_deep P__law_deep (sp__law_deep (Cs a)) := by
  refine T.F__law_deep.ok sc__law_deep (fun vs H Q E h => by obtain ⟨hd, c, rfl, _⟩ := h; rfl) (fun cdv A outer s H vs Q E hr h => ?_)
  obtain ⟨hd, c, rfl, hh, k⟩ := h
  have G__law_draw : FnOk P w K mg base CX0 1 a.f__law_draw a.d__law_draw P__law_draw sp__law_draw := ok__law_draw T
  refine ⟨_, (pss_cons (ps_set (i := 1) sc__law_deep.nd rfl (Or.inl rfl) (pe_ix ix_list (pe_lstN (pa_cons pe_non (pa_cons pe_str (pa_cons (pe_un un_neg pe_int) (pa_cons pe_dnewK pa_nil))))) (pe_call (G__law_draw) (hr.mono (by omega)) rfl T.m__law_draw T.F__law_draw.kp T.b__law_draw .nil pass0 (pa_cons (pv 0) (pa_cons pe_int pa_nil))) (fun _ _ => rfl)))
  (pss_cons (ps_for PassesOwn.never rfl (pi_range1 rfl T.n_range (pa_cons (pe_op op_add pe_int (pe_call (G__law_draw) (hr.mono (by omega)) rfl T.m__law_draw T.F__law_draw.kp T.b__law_draw .nil pass0 (pa_cons (pv 0) (pa_cons pe_int pa_nil)))) pa_nil)) (pg_name (i := 2) sc__law_deep.nd rfl (Or.inl rfl))
    (pss_one (ps_set (i := 1) sc__law_deep.nd rfl (Or.inl rfl) (pe_ix ix_list (pe_lstN (pa_cons (pe_tupN (pa_cons (pv 1) pa_nil)) (pa_cons (pe_lstN (pa_cons (pv 1) pa_nil)) (pa_cons (pe_slice sl_tupR (pe_tupN (pa_cons (pv 1) (pa_cons (pv 1) pa_nil))) po_none (po_some pe_int)) (pa_cons (pe_disp (pps_cons pe_int (pv 1) pps_nil) rfl rfl (by simp) (by decide)) pa_nil))))) (pe_call (G__law_draw) (hr.mono (by omega)) rfl T.m__law_draw T.F__law_draw.kp T.b__law_draw .nil pass0 (pa_cons (pv 0) (pa_cons pe_int pa_nil))) (fun _ _ => rfl)))))
  (pss_one (ps_ret (pv 1))))), ?_⟩
  walk_at "ws"
  refine w_dnew (o := none) fun p H1 hp g1 h1 => ?_
  walk_at "ws"
  refine ⟨sz (by simp), fun l H2 hl g2 h2 => ?_⟩
  have g02 := (g1 none).trans (g2 none)
  have hh2 := g02.up.hand (hd, c) rfl hh
  walk_at "ws"
  refine ⟨hd, c, 4, rfl, hh2, by decide, by decide, fun r H3 r0 r1 g3 hh3 => ?_⟩
  have g03 := g02.up.trans g3
  have npd : p ≠ hd := hh.ne hp
  have nld : l ≠ hd := ((g1 none).up.hand (hd, c) rfl hh).ne hl
  have h3l := g3.keep l _ (fun q e => by cases e; exact nld) h2
  have h3p := g3.keep p _ (fun q e => by cases e; exact npd) ((g2 none).all _ _ h1)
  have al : AbAll (Cs a) hd H3 [.non, .str "a", .int (-1), .ref p] [.non, .str "a", .int (-1), .oth] := .cons .non (.cons (.str _) (.cons (.int _) (.cons (ab_dK npd h3p) .nil)))
  obtain ⟨v0, t0, e0, m0, hv0⟩ := at_ab al r0 (by simpa using r1)
  have s0 : smT t0 = true := by
    simp only [List.mem_cons, List.not_mem_nil, or_false] at m0
    rcases m0 with rfl | rfl | rfl | rfl <;> rfl
  refine r_ixL (SqL.of h3l) e0 ?_
  clear e0 al m0 h3l h3p h2 h1 hp hl g1 g2 g3 g02 hh2
  walk_at "ws"
  refine ⟨hd, c, 30, rfl, hh3, by decide, by decide, fun n H4 n0 n1 g4 hh4 => ?_⟩
  walk_at "ws"
  refine i_rng1 (by omega) (by omega) ?_
  refine for_it walk_range (fun i σ H' => G (some (hd, c)) H H' ∧ Hand H' hd c ∧ ∃ v t u, smT t = true ∧ Ab (Cs a) hd H' v t ∧ σ = [some (.ref hd), some v, u]) ⟨g03.trans g4, hh4, v0, t0, _, s0, hv0.g g4 OH.s, rfl⟩ (fun _ _ _ _ _ => trivial) ?_ ?_
  · rintro i _ σ _ H5 hi ⟨g5, hh5, v, t, u, sm, hv, rfl⟩ ⟨rfl, rfl⟩
    walk_at "ws"
    refine ⟨sz (by simp), fun p1 H6 hp1 g6 h6 => ?_⟩
    walk_at "ws"
    refine ⟨sz (by simp), fun p2 H7 hp2 g7 h7 => ?_⟩
    walk_at "ws"
    refine ⟨sz (by simp), fun p3 H8 hp3 g8 h8 => ?_⟩
    walk_at "ws"
    refine ⟨p3, _, rfl, .inl h8, fun p4 H9 g9 r9 => ?_⟩
    walk_at "ws"
    refine w_disp1 rfl fun p5 kvs HA hp5 gA hA => ?_
    walk_at "ws"
    refine ⟨sz (by simp), fun p6 HB hp6 gB hB => ?_⟩
    have q9B := (gA none).trans (gB none)
    have q8B := (g9 none).trans q9B
    have q7B := (g8 none).trans q8B
    have q6B := (g7 none).trans q7B
    have q5B := (g6 none).trans q6B
    have hhB := q5B.up.hand (hd, c) rfl hh5
    walk_at "ws"
    refine ⟨hd, c, 4, rfl, hhB, by decide, by decide, fun r HC r0 r1 gC hhC => ?_⟩
    have hvB := hv.n q5B
    have hhA := (((((g6 none).trans (g7 none)).trans (g8 none)).trans (g9 none)).trans (gA none)).up.hand (hd, c) rfl hh5
    have hh6 := (g6 none).up.hand (hd, c) rfl hh5
    have hh9 := ((((g6 none).trans (g7 none)).trans (g8 none)).trans (g9 none)).up.hand (hd, c) rfl hh5
    have n6 : p6 ≠ hd := hhA.ne hp6
    have n2 : p2 ≠ hd := hh6.ne hp2
    have n5 : p5 ≠ hd := hh9.ne hp5
    have al : AbAll (Cs a) hd HB [.ref p1, .ref p2, .ref p4, .ref p5] [.tup [t], .oth, .tup [t], .oth] :=
      .cons (.tup (.inl (q6B.all _ _ h6)) (.cons hvB .nil)) (.cons (ab_lst n2 (q7B.all _ _ h7)) (.cons (.tup (q9B.tups _ _ r9) (.cons hvB .nil)) (.cons (ab_dK n5 ((gB none).all _ _ hA)) .nil)))
    have hC6 := gC.keep p6 _ (fun q e => by cases e; exact n6) hB
    obtain ⟨v', t', e', m', hv'⟩ := at_ab (al.g gC OH.s) r0 (by simpa using r1)
    have s1 : smT (.tup [t]) = true := smT_of (by simp) fun z hz => by
      have e : z = t := by simpa using hz
      rw [e]; exact sm
    have s' : smT t' = true := by
      simp only [List.mem_cons, List.not_mem_nil, or_false] at m'
      rcases m' with rfl | rfl | rfl | rfl <;> first | exact s1 | rfl
    refine r_ixL (SqL.of hC6) e' ?_
    exact ⟨(g5.trans q5B.up).trans gC, hhC, v', t', _, s', hv', rfl⟩
  · rintro σ H5 ⟨g5, hh5, v, t, u, sm, hv, rfl⟩
    walk_at "ws"
    exact k v t H5 g5 hh5 hv sm

def sp__law_flag : Sp := fun vs H Q _ => ∃ (x y : Bool), vs = [.bl x, .bl y] ∧ Q (.bl (decide (x = y))) H
theorem ok__law_flag (T : Txt K mg a) : FnOk P w K mg base CX0 1 a.f__law_flag a.d__law_flag P__law_flag sp__law_flag := by
  refine T.F__law_flag.ok sc__law_flag (fun vs H Q E h => by obtain ⟨x, y, rfl, _⟩ := h; rfl) (fun cdv A outer s H vs Q E hr h => ?_)
  obtain ⟨x, y, rfl, k⟩ := h
  refine ⟨_, (pss_one (ps_ret (pe_and (pe_callB call_isi (by rfl) T.n_isinstance (by decide +kernel) (pa_cons (pv 0) (pa_cons (pe_bltn (v := .ty "bool") (u := .type "bool") rfl T.n_bool (by decide +kernel) rfl) pa_nil))) (pe_one (pe_cmpR op_eq (pv 0) (pv 1) (nomark _)))))), ?_⟩
  walk_at "ws"
  refine r_isi ty_bl ki_bb ?_
  walk_at "ws"
  exact k
/-! ### _law_odd -/
def sp__law_odd (C : Addr → Prop) : Sp := fun vs H Q _ => ∃ (hd c : Addr) (v2 v3 : V) (t2 t3 : Tg), vs = [.ref hd, v2, v3] ∧ Hand H hd c ∧ Ab C hd H v2 t2 ∧ Ab C hd H v3 t3 ∧ smT t2 = true ∧ smT t3 = true ∧ ∀ (v : V) (t : Tg) H', G (some (hd, c)) H H' → Hand H' hd c → Ab C hd H' v t → smT t = true → Q v H'
theorem ok__law_odd (T : Txt K mg a) : FnOk P w K mg base CX0 9 a.f__law_odd a.d__law_odd P__law_odd (sp__law_odd (Cs a)) := by
  refine T.F__law_odd.ok sc__law_odd (fun vs H Q E h => by obtain ⟨hd, c, v2, v3, t2, t3, rfl, _⟩ := h; rfl) (fun cdv A outer s H vs Q E hr h => ?_)
  obtain ⟨hd, c, v2, v3, t2, t3, rfl, hh, ha2, ha3, sm2, sm3, k⟩ := h
  have G__law_draw : FnOk P w K mg base CX0 1 a.f__law_draw a.d__law_draw P__law_draw sp__law_draw := ok__law_draw T
  have G__law_deep : FnOk P w K mg base CX0 2 a.f__law_deep a.d__law_deep P__law_deep (sp__law_deep (Cs a)) := ok__law_deep T
  refine ⟨_, (pss_cons (ps_set (i := 3) sc__law_odd.nd rfl (Or.inl rfl) (pe_lstN (pa_cons pe_non (pa_cons pe_bl (pa_cons pe_bl (pa_cons (pe_un un_neg pe_int) (pa_cons pe_int (pa_cons pe_str (pa_cons (pe_tupN pa_nil) (pa_cons (pe_lstN pa_nil) (pa_cons pe_dnewK (pa_cons (pe_tupN (pa_cons pe_int pa_nil)) (pa_cons (pe_tupN (pa_cons pe_non pa_nil)) (pa_cons (pe_tupN (pa_cons pe_int (pa_cons (pe_tupN (pa_cons pe_int pa_nil)) pa_nil))) (pa_cons (pe_call (G__law_deep) (hr.mono (by omega)) rfl T.m__law_deep T.F__law_deep.kp T.b__law_deep .nil pass0 (pa_cons (pv 0) pa_nil)) (pa_cons (pv 1) (pa_cons (pv 2) (pa_cons pe_int pa_nil))))))))))))))))))
  (pss_one (ps_ret (pe_ix ix_list (pv 3) (pe_call (G__law_draw) (hr.mono (by omega)) rfl T.m__law_draw T.F__law_draw.kp T.b__law_draw .nil pass0 (pa_cons (pv 0) (pa_cons pe_int pa_nil))) (fun _ _ => rfl))))), ?_⟩
  walk_at "ws"
  refine ⟨sz (by simp), fun p1 H1 hp1 g1 h1 => ?_⟩
  walk_at "ws"
  refine ⟨sz (by simp), fun p2 H2 hp2 g2 h2 => ?_⟩
  walk_at "ws"
  refine w_dnew (o := none) fun p3 H3 hp3 g3 h3 => ?_
  walk_at "ws"
  refine ⟨sz (by simp), fun p4 H4 hp4 g4 h4 => ?_⟩
  walk_at "ws"
  refine ⟨sz (by simp), fun p5 H5 hp5 g5 h5 => ?_⟩
  walk_at "ws"
  refine ⟨sz (by simp), fun p6 H6 hp6 g6 h6 => ?_⟩
  walk_at "ws"
  refine ⟨sz (by simp), fun p7 H7 hp7 g7 h7 => ?_⟩
  walk_at "ws"
  have q7 := g7 none
  have q6 := (g6 none).trans q7
  have q5 := (g5 none).trans q6
  have q4 := (g4 none).trans q5
  have q3 := (g3 none).trans q4
  have q2 := (g2 none).trans q3
  have q1 := (g1 none).trans q2
  have u2 := (g1 none).trans (g2 none)
  have hh7 := q1.up.hand (hd, c) rfl hh
  refine ⟨hd, c, rfl, hh7, fun v t Hb gb hhb hv smt => ?_⟩
  walk_at "ws"
  have n2 : p2 ≠ hd := ((g1 none).up.hand (hd, c) rfl hh).ne hp2
  have n3 : p3 ≠ hd := (u2.up.hand (hd, c) rfl hh).ne hp3
  refine ⟨sz (by simp), fun pa Ha hpa ga ha => ?_⟩
  have na : pa ≠ hd := hhb.ne hpa
  obtain ⟨ts, al, smts⟩ : ∃ ts, AbAll (Cs a) hd Hb [.non, .bl true, .bl false, .int (-1), .int 7, .str "0", .ref p1, .ref p2, .ref p3, .ref p4, .ref p5, .ref p7, v, v2, v3, .int 0] ts ∧ ∀ t ∈ ts, smT t = true := by
    have al : AbAll (Cs a) hd H7 [.non, .bl true, .bl false, .int (-1), .int 7, .str "0", .ref p1, .ref p2, .ref p3, .ref p4, .ref p5, .ref p7] [.non, .bl true, .bl false, .int (-1), .int 7, .str "0", .tup [], .oth, .oth, .tup [.int 0], .tup [.non], .tup [.int 0, .tup [.int 0]]] :=
      .cons .non (.cons (.bl _) (.cons (.bl _) (.cons (.int _) (.cons (.int _) (.cons (.str _)
        (.cons (.tup (.inl (q2.all _ _ h1)) .nil) (.cons (ab_lst n2 (q3.all _ _ h2)) (.cons (ab_dK n3 (q4.all _ _ h3))
        (.cons (.tup (.inl (q5.all _ _ h4)) (.cons (.int _) .nil)) (.cons (.tup (.inl (q6.all _ _ h5)) (.cons .non .nil))
        (.cons (.tup (.inl h7) (.cons (.int _) (.cons (.tup (.inl (q7.all _ _ h6)) (.cons (.int _) .nil)) .nil))) .nil)))))))))))
    refine ⟨_, (al.g gb OH.s).app (.cons hv (.cons ((ha2.n q1).g gb OH.s) (.cons ((ha3.n q1).g gb OH.s) (.cons (.int 0) .nil)))), fun u hu => ?_⟩
    rcases List.mem_append.mp hu with z | z
    · exact smTs_all (by decide +kernel : smTs [.non, .bl true, .bl false, .int (-1), .int 7, .str "0", .tup [], .oth, .oth, .tup [.int 0], .tup [.non], .tup [.int 0, .tup [.int 0]]] = true) u z
    · simp only [List.mem_cons, List.not_mem_nil, or_false] at z
      rcases z with rfl | rfl | rfl | rfl
      · exact smt
      · exact sm2
      · exact sm3
      · rfl
  have al := al.n (ga none)
  have la : ∃ L : List V, L = [.non, .bl true, .bl false, .int (-1), .int 7, .str "0", .ref p1, .ref p2, .ref p3, .ref p4, .ref p5, .ref p7, v, v2, v3, .int 0] := ⟨_, rfl⟩
  obtain ⟨L, eL⟩ := la
  rw [← eL] at al ha
  have l16 : L.length = 16 := by rw [eL]; rfl
  clear eL
  have hha := (ga none).up.hand (hd, c) rfl hhb
  walk_at "ws"
  refine ⟨hd, c, 16, rfl, hha, by decide, by decide, fun r Hf r0 r1 gf hhf => ?_⟩
  have hf := gf.keep pa _ (fun q e => by cases e; exact na) ha
  obtain ⟨v', t', e', m', hv'⟩ := at_ab (al.g gf OH.s) r0 (by rw [l16]; simpa using r1)
  refine r_ixL (SqL.of hf) e' ?_
  exact k v' t' Hf ((q1.up.trans gb).trans ((ga none).up.trans gf)) hhf hv' (smts _ m')

end
end Mine
/-! ## K68 -/


namespace Mine
section
variable {P : Program} {w : World} {K : PySem.W.Frag} {mg : Str → Option Value} {base : Heap} {a : Ads}

/-! ### trees that are drawn -/
def tv : Option Int → V
  | none => .non
  | some i => .int i
def tvT : Option Int → Tg
  | none => .non
  | some i => .int i
def TsL (H' : Hp) (qs : List Addr) (uss : List (List (Option Int))) (k n : Nat) : Prop := qs.length = k ∧ uss.length = k ∧ (∀ us ∈ uss, us.length = n) ∧ ∀ (j : Nat) (q : Addr) (us : List (Option Int)), qs[j]? = some q → uss[j]? = some us → Rd H' q (.tup (us.map tv))
theorem TsL.t {H H' : Hp} {qs : List Addr} {uss : List (List (Option Int))} {k n : Nat} (h : TsL H qs uss k n) (t : Ts H H') : TsL H' qs uss k n := ⟨h.1, h.2.1, h.2.2.1, fun j q us e1 e2 => t _ _ (h.2.2.2 j q us e1 e2)⟩
theorem TsL.nil {H : Hp} {n : Nat} : TsL H [] [] 0 n := ⟨rfl, rfl, fun _ h => (by cases h), fun _ _ _ h => (by simp at h)⟩
theorem TsL.app {H : Hp} {qs : List Addr} {uss : List (List (Option Int))} {k n : Nat} {q : Addr} {us : List (Option Int)} (h : TsL H qs uss k n) (l : us.length = n) (r : Rd H q (.tup (us.map tv))) : TsL H (qs ++ [q]) (uss ++ [us]) (k + 1) n := by
  obtain ⟨h1, h2, h3, h4⟩ := h
  refine ⟨by rw [List.length_append, h1]; rfl, by rw [List.length_append, h2]; rfl, fun vs hv => ?_, fun j q' us' e1 e2 => ?_⟩
  · rcases List.mem_append.mp hv with c | c
    · exact h3 vs c
    · rw [show vs = us from by simpa using c]; exact l
  · rcases Nat.lt_or_ge j k with c | c
    · rw [List.getElem?_append_left (by omega)] at e1 e2
      exact h4 j q' us' e1 e2
    · rw [List.getElem?_append_right (by omega)] at e1 e2
      have l1 := (List.getElem?_eq_some_iff.mp e1).1
      simp only [List.length_cons, List.length_nil] at l1
      rw [show j - qs.length = 0 from by omega] at e1
      rw [show j - uss.length = 0 from by omega] at e2
      cases e1
      cases e2
      exact r
def TrsV (H : Hp) (t : Addr) (k n : Nat) : Prop := ∃ (qs : List Addr) (uss : List (List (Option Int))), Rd H t (.tup (qs.map V.ref)) ∧ TsL H qs uss k n
def sp__law_drawn_trees (K : PySem.W.Frag) : Sp := fun vs H Q _ => ∃ (hd c wa vp dp : Addr) (m : Int) (bs : List Addr) (W : List (Int × Int)) (ws : List Int) (ds : List (List Int)), vs = [.ref hd, .ref wa, .ref vp, .ref dp] ∧ Hand H hd c ∧ SqT K H wa (bs.map V.ref) ∧ TupAll H bs W ∧ IsWeb m W ∧ SqT K H vp (ws.map V.int) ∧ Dia K H dp ds ∧ IsRec ws ds ∧ ds.length = m.toNat ∧
  ∀ (t : Addr) H', G (some (hd, c)) H H' → Hand H' hd c → TrsV H' t ws.length ds.length → Q (.ref t) H'
theorem ok__law_drawn_trees (T : Txt K mg a) : FnOk P w K mg base CX0 2 a.f__law_drawn_trees a.d__law_drawn_trees P__law_drawn_trees (sp__law_drawn_trees K) := by
  refine T.F__law_drawn_trees.ok sc__law_drawn_trees (fun vs H Q E h => by obtain ⟨hd, c, wa, vp, dp, m, bs, W, ws, ds, rfl, _⟩ := h; rfl) (fun cdv A outer s H vs Q E hr h => ?_)
  obtain ⟨hd, c, wa, vp, dp, m, bs, W, ws, ds, rfl, hh, hwa, tup, web, hvp, hdia, rec, lm, k⟩ := h
  have m1 := web.lo
  have m7 := web.hi
  have l49 := isweb_len49 web
  have p30 := rec.p30
  obtain ⟨bd, hbd, lbd, hfd⟩ := id hdia
  have hdg : ∀ q, some (hd, c) = some q → Hand H q.1 q.2 := fun q e => by cases e; exact hh
  have G__law_grow : FnOk P w K mg base CX0 1 a.f__law_grow a.d__law_grow P__law_grow (sp__law_grow K) := ok__law_grow T
  have G__law_draw : FnOk P w K mg base CX0 1 a.f__law_draw a.d__law_draw P__law_draw sp__law_draw := ok__law_draw T
  refine ⟨_, (pss_cons (ps_set (i := 4) sc__law_drawn_trees.nd rfl (Or.inl rfl) (pe_lstN pa_nil))
  (pss_cons (ps_for PassesOwn.never rfl (pi_range1 rfl T.n_range (pa_cons (pe_callB call_len_seq (by rfl) T.n_len (by decide +kernel) (pa_cons (pv 2) pa_nil)) pa_nil)) (pg_name (i := 5) sc__law_drawn_trees.nd rfl (Or.inl rfl))
    (pss_cons (ps_set (i := 6) sc__law_drawn_trees.nd rfl (Or.inl rfl) (pe_call (G__law_grow) (hr.mono (by omega)) rfl T.m__law_grow T.F__law_grow.kp T.b__law_grow .nil pass0 (pa_cons (pv 1) (pa_cons (pv 3) (pa_cons (pv 5) pa_nil)))))
  (pss_cons (ps_set (i := 7) sc__law_drawn_trees.nd rfl (Or.inl rfl) (pe_lstN pa_nil))
  (pss_cons (ps_for PassesOwn.never rfl (pi_range1 rfl T.n_range (pa_cons (pe_callB call_len_seq (by rfl) T.n_len (by decide +kernel) (pa_cons (pv 3) pa_nil)) pa_nil)) (pg_name (i := 8) sc__law_drawn_trees.nd rfl (Or.inr rfl))
    (pss_cons (ps_setLc (i := 9) (own := [("_law_wire", 11)]) (g := (gName 11))  rfl sc__law_drawn_trees.nd rfl rfl (sw_true rfl rfl rfl (by decide +kernel)) (pi_list (pv 6)) (blkOk_by (N := N__law_drawn_trees) (sc := defScope s__law_drawn_trees) (by decide +kernel)) (fun _ _ _ _ _ => (pg_name (i := 11) sc__law_drawn_trees.nd rfl (by first | exact Or.inl rfl | exact Or.inr rfl))) (fun _ _ _ _ _ => (pts_one (pt_cmpR op_eq (pe_ix (k_ix_tup K) (pv 11) pe_int (fun _ _ => rfl)) (pv 8) (nomark _)))) (fun _ _ _ _ _ => (pe_ix (k_ix_tup K) (pv 11) pe_int (fun _ _ => rfl))))
  (pss_cons (ps_if (L2.PW.pt (pw_or (pt_cmpR op_eq (pe_callB call_len_seq (by rfl) T.n_len (by decide +kernel) (pa_cons (pv 9) pa_nil)) pe_int (nomark _)) (pw_or1 (pt_cmpR op_eq (pe_call (G__law_draw) (hr.mono (by omega)) rfl T.m__law_draw T.F__law_draw.kp T.b__law_draw .nil pass0 (pa_cons (pv 0) (pa_cons pe_int pa_nil))) pe_int (nomark _)))))
    (pss_one (ps_set (i := 9) sc__law_drawn_trees.nd rfl (Or.inl rfl) (pe_op op_catLN (pe_op op_catLN (pv 9) (pe_lc (own := [("_law_wire", 11)]) (g := (gName 11)) rfl sc__law_drawn_trees.nd (pi_tup (pv 1)) (blkOk_by (N := N__law_drawn_trees) (sc := defScope s__law_drawn_trees) (by decide +kernel)) (fun _ _ _ _ _ => (pg_name (i := 11) sc__law_drawn_trees.nd rfl (by first | exact Or.inl rfl | exact Or.inr rfl))) (fun _ _ _ _ _ => (pts_one (pt_cmpR op_eq (pe_ix (k_ix_tup K) (pv 11) pe_int (fun _ _ => rfl)) (pv 8) (nomark _)))) (fun _ _ _ _ _ => (pe_ix (k_ix_tup K) (pv 11) pe_int (fun _ _ => rfl))))) (pe_lstN (pa_cons pe_int pa_nil)))))
    pss_nil)
  (pss_cons (ps_set (i := 10) sc__law_drawn_trees.nd rfl (Or.inl rfl) (pe_and (pe_cmpR op_ne (pv 8) (pe_ix ix_tup (pv 2) (pv 5) (fun _ _ => rfl)) (nomark _)) (pe_one (pe_cmpR op_in_seq (pv 5) (pe_ix ix_tup (pv 3) (pv 8) (fun _ _ => rfl)) (by rfl)))))
  (pss_one (ps_expr (pe_bm PySem.F.plainAttrs_list PySem.F.slot_list_append PySem.F.type_list_append mt_append (pv 7) (pa_cons (pe_ifExp (pt_val (pv 10)) (pe_ix ix_list (pv 9) (pe_call (G__law_draw) (hr.mono (by omega)) rfl T.m__law_draw T.F__law_draw.kp T.b__law_draw .nil pass0 (pa_cons (pv 0) (pa_cons (pe_callB call_len_seq (by rfl) T.n_len (by decide +kernel) (pa_cons (pv 9) pa_nil)) pa_nil))) (fun _ _ => rfl)) pe_non) pa_nil))))))))
  (pss_one (ps_expr (pe_bm PySem.F.plainAttrs_list PySem.F.slot_list_append PySem.F.type_list_append mt_append (pv 4) (pa_cons (pe_callTy call_tupleN (by rfl) T.n_tuple (by decide +kernel) (pa_cons (pv 7) pa_nil)) pa_nil))))))))
  (pss_one (ps_ret (pe_callTy call_tupleN (by rfl) T.n_tuple (by decide +kernel) (pa_cons (pv 4) pa_nil)))))), ?_⟩
  walk_at "ws"
  refine ⟨sz (by simp), fun D H0 hD g0 h0 => ?_⟩
  walk_at "ws"
  refine ⟨vp, _, rfl, .inr (sqT_t (g0 none).tups hvp), ?_⟩
  walk_at "ws"
  rw [List.length_map]
  refine i_rng1 (by omega) (by omega) ?_
  rw [Int.toNat_natCast]
  have nD : D ≠ hd := hh.ne hD
  refine for_it walk_range (fun i σ H' => ∃ (u5 u6 u7 u8 u9 u10 : Option V) (qs : List Addr) (uss : List (List (Option Int))), σ = [some (.ref hd), some (.ref wa), some (.ref vp), some (.ref dp), some (.ref D), u5, u6, u7, u8, u9, u10, none] ∧ G (some (hd, c)) H H' ∧ Hand H' hd c ∧ H' D = some (.lst (qs.map V.ref)) ∧ TsL H' qs uss i ds.length)
    ⟨_, _, _, _, _, _, [], [], rfl, (g0 none).up, (g0 none).up.hand (hd, c) rfl hh, h0, TsL.nil⟩ (fun _ _ _ _ _ => trivial) ?_ ?_
  · rintro i _ σ _ H1 hi ⟨u5, u6, u7, u8, u9, u10, qs, uss, rfl, g1, hh1, h1D, tsl⟩ ⟨rfl, rfl⟩
    show gName 5 (.int (0 + (i : Int))) _ _ _
    rw [Int.zero_add]
    obtain ⟨w0, hw0⟩ : ∃ w0, ws[i]? = some w0 := ⟨_, List.getElem?_eq_getElem hi⟩
    walk_at "ws"
    refine ⟨wa, dp, i, m, bs, W, ws, ds, rfl, sqT_t g1.tups hwa, tup.g g1 hdg, web, hdia.g g1 hdg, rec, lm, fun gl xg H2 hg g2 h2 dpg => ?_⟩
    have gw := growL_len W ds (i : Nat)
    have lxg := DpAll.length dpg
    rw [List.length_map] at lxg
    have hh2 := g2.up.hand (hd, c) rfl hh1
    have ngl : gl ≠ hd := hh1.ne hg
    walk_at "ws"
    refine ⟨sz (by simp), fun tl H3 htl g3 h3 => ?_⟩
    have g13 := g2.trans (g3 none)
    have g03 := g1.trans g13.up
    walk_at "ws"
    refine ⟨dp, _, rfl, .inr (sqT_t g03.tups hbd), ?_⟩
    walk_at "ws"
    rw [List.length_map, lbd]
    refine i_rng1 (by omega) (by omega) ?_
    rw [Int.toNat_natCast]
    have ntl : tl ≠ hd := hh2.ne htl
    refine for_it walk_range (fun x σ H' => ∃ (u8 u9 u10 : Option V) (us : List (Option Int)), σ = [some (.ref hd), some (.ref wa), some (.ref vp), some (.ref dp), some (.ref D), some (.int (i : Nat)), some (.ref gl), some (.ref tl), u8, u9, u10, none] ∧ G (some (hd, c)) H2 H' ∧ Hand H' hd c ∧ H' tl = some (.lst (us.map tv)) ∧ us.length = x)
      ⟨_, _, _, [], rfl, (g3 none).up, (g3 none).up.hand (hd, c) rfl hh2, h3, rfl⟩ (fun _ _ _ _ _ => trivial) ?_ ?_
    · rintro x _ σ _ H4 hx ⟨u8, u9, u10, us, rfl, g4, hh4, h4t, lus⟩ ⟨rfl, rfl⟩
      show gName 8 (.int (0 + (x : Int))) _ _ _
      rw [Int.zero_add]
      have g04 := (g1.trans g2.up).trans g4
      have h4g := g4.keep gl _ (fun q e => by cases e; exact ngl) h2
      walk_at "ws"
      refine i_list (SqL.of h4g) ?_
      intro R hR
      refine lc_it (walk_list (xs := xg)) (fun j H' => G none H4 H' ∧ ∃ es : List Int, H' R = some (.lst (es.map V.int)) ∧ es.length ≤ j) ⟨(G.refl).mut hR (fun _ e => nomatch e), [], upd_same, Nat.le_refl _⟩ (fun j H' _ g => sqL_n g.1 (SqL.of h4g)) ?_ ?_
      · rintro j v _ H5 hj ⟨g5, es, h5, le⟩ ⟨rfl, hv⟩
        obtain ⟨d, hd1, hvd⟩ := DpAll.get dpg hv
        rw [List.getElem?_map] at hd1
        obtain ⟨u, hu, rfl⟩ := Option.map_eq_some_iff.mp hd1
        obtain ⟨tt, rfl, htt⟩ := dp_dP hvd
        have htt := sqT_t g5.tups (sqT_t g4.tups htt)
        walk_at "ws"
        refine ⟨rfl, ?_⟩
        walk_at "ws"
        refine r_ixT htt (v := .int u.2) rfl ?_
        walk_at "ws"
        refine w_ite (fun e => ?_) (fun e => ?_)
        · walk_at "ws"
          refine r_ixT htt (v := .int u.1) rfl ?_
          refine ⟨_, h5, Nat.lt_of_le_of_lt (by rw [List.length_map]; omega : (es.map V.int).length ≤ 1000) (by decide), g5.mut hR (fun _ e => nomatch e), es ++ [u.1], by rw [upd_same, List.map_append]; rfl, by rw [List.length_append, List.length_singleton]; omega⟩
        · exact ⟨g5, es, h5, by omega⟩
      rintro H5 ⟨g5, es, h5, le⟩
      have g05 := g04.trans g5.up
      have hh5 := g5.up.hand (hd, c) rfl hh4
      have nR : R ≠ hd := hh4.ne hR
      have tup5 := tup.g g05 hdg
      have hwa5 := sqT_t g05.tups hwa
      walk_at "wn"
      dsimp only
      refine w_seqM (fun σ H' => ∃ (la : Addr) (es : List Int), σ = [some (.ref hd), some (.ref wa), some (.ref vp), some (.ref dp), some (.ref D), some (.int (i : Nat)), some (.ref gl), some (.ref tl), some (.int (x : Nat)), some (.ref la), u10, none] ∧ G (some (hd, c)) H5 H' ∧ Hand H' hd c ∧ H' la = some (.lst (es.map V.int)) ∧ 1 ≤ es.length ∧ es.length ≤ 200) (fun N kN => ?_) ?_
      · refine w_ifM (fun b H' => G (some (hd, c)) H5 H' ∧ Hand H' hd c ∧ (b = false → 1 ≤ es.length)) (fun N2 kN2 => ?_) ?_
        · walk_at "ws"
          refine ⟨R, _, rfl, .inl (SqL.of h5), ?_⟩
          rw [List.length_map]
          walk_at "ws"
          refine w_ite (fun e => ?_) (fun e => ?_)
          · exact kN2 _ _ ⟨G.refl, hh5, fun h => Bool.noConfusion h⟩
          · have e : ¬ (es.length : Int) = 0 := by simpa using e
            walk_at "ws"
            refine ⟨hd, c, 12, rfl, hh5, by decide, by decide, fun r H6 r0 r1 g6 hh6 => ?_⟩
            walk_at "ws"
            exact kN2 _ _ ⟨g6, hh6, fun _ => by omega⟩
        · rintro b H6 ⟨g6, hh6, hb⟩
          have h6R := g6.keep R _ (fun q e => by cases e; exact nR) h5
          refine w_ite (fun e => ?_) (fun e => ?_)
          · have g06 := g05.trans g6
            have tup6 := tup.g g06 hdg
            have hwa6 := sqT_t g06.tups hwa
            walk_at "ws"
            refine i_tup hwa6 ?_
            intro R2 hR2
            refine lc_it (walk_tup (xs := bs.map V.ref)) (fun j H' => G none H6 H' ∧ ∃ fs : List Int, H' R2 = some (.lst (fs.map V.int)) ∧ fs.length ≤ j) ⟨(G.refl).mut hR2 (fun _ e => nomatch e), [], upd_same, Nat.le_refl _⟩ (fun j H' _ g => sqT_t g.1.tups hwa6) ?_ ?_
            · rintro j v _ H7 hj ⟨g7, fs, h7, lf⟩ ⟨rfl, hv⟩
              rw [List.length_map] at hj
              rw [List.getElem?_map] at hv
              obtain ⟨b1, hb1, rfl⟩ := Option.map_eq_some_iff.mp hv
              have lb := tup.1
              obtain ⟨u, hu⟩ : ∃ u, W[j]? = some u := ⟨_, List.getElem?_eq_getElem (by omega)⟩
              have htt := SqT.of (K := K) ((tup6.g g7 (fun _ e => nomatch e)).2 j b1 u hb1 hu)
              walk_at "ws"
              refine ⟨rfl, ?_⟩
              walk_at "ws"
              refine r_ixT htt (v := .int u.2) rfl ?_
              walk_at "ws"
              refine w_ite (fun e => ?_) (fun e => ?_)
              · walk_at "ws"
                refine r_ixT htt (v := .int u.1) rfl ?_
                refine ⟨_, h7, Nat.lt_of_le_of_lt (by rw [List.length_map]; omega : (fs.map V.int).length ≤ 1000) (by decide), g7.mut hR2 (fun _ e => nomatch e), fs ++ [u.1], by rw [upd_same, List.map_append]; rfl, by rw [List.length_append, List.length_singleton]; omega⟩
              · exact ⟨g7, fs, h7, by omega⟩
            rintro H7 ⟨g7, fs, h7, lf⟩
            rw [List.length_map, tup.1] at lf
            have h7R := g7.all _ _ h6R
            walk_at "ws"
            refine ⟨R, R2, _, _, rfl, rfl, h7R, h7, by rw [List.length_map, List.length_map]; omega, fun l8 H8 hl8 g8 h8 => ?_⟩
            walk_at "ws"
            refine ⟨sz (by simp), fun l9 H9 hl9 g9 h9 => ?_⟩
            walk_at "ws"
            refine ⟨l8, l9, _, _, rfl, rfl, (g9 none).all _ _ h8, h9, by rw [List.length_append, List.length_map, List.length_map]; simp; omega, fun la HA hla gA hA => ?_⟩
            walk_at "ws"
            have g6A := ((g7.trans (g8 none)).trans (g9 none)).trans (gA none)
            refine kN _ _ ⟨la, es ++ fs ++ [0], rfl, g6.trans g6A.up, g6A.up.hand (hd, c) rfl hh6, by rw [hA, List.map_append, List.map_append]; rfl, by simp; omega, by simp; omega⟩
          · walk_at "ws"
            exact kN _ _ ⟨R, es, rfl, g6, hh6, h6R, hb e, by omega⟩
      · rintro σ H6 ⟨la, fs, rfl, g6, hh6, h6, l1, l2⟩
        have g06 := g05.trans g6
        obtain ⟨bd6, hbd6, lbd6, hfd6⟩ := hdia.g g06 hdg
        obtain ⟨f, hf⟩ : ∃ f, bd6[x]? = some f := ⟨_, List.getElem?_eq_getElem (by omega)⟩
        obtain ⟨d, hd1⟩ : ∃ d, ds[x]? = some d := ⟨_, List.getElem?_eq_getElem (by omega)⟩
        have nla : la ≠ hd := fun e => by
          obtain ⟨_, _, _, _, _, _, e2, _⟩ := hh6
          rw [← e, h6] at e2
          cases fs with
          | nil => simp at l1
          | cons z zs => simp at e2
        refine w_seqM (fun σ H' => ∃ b : Bool, H' = H6 ∧ σ = [some (.ref hd), some (.ref wa), some (.ref vp), some (.ref dp), some (.ref D), some (.int (i : Nat)), some (.ref gl), some (.ref tl), some (.int (x : Nat)), some (.ref la), some (.bl b), none]) (fun N kN => ?_) ?_
        · walk_at "ws"
          refine r_ixT (sqT_t g06.tups hvp) (v := .int w0) (at_of (j := i) rfl (by rw [List.getElem?_map, hw0]; rfl)) ?_
          walk_at "ws"
          refine w_ite (fun e => ?_) (fun e => ?_)
          · walk_at "ws"
            refine r_ixT hbd6 (v := .ref f) (at_of (j := x) rfl (by rw [List.getElem?_map, hf]; rfl)) ?_
            refine ⟨f, _, rfl, .inr (hfd6 x f d hf hd1).sq, rfl, flat_ints d, ?_⟩
            rw [inV_ints]
            walk_at "ws"
            exact kN _ _ ⟨_, rfl, rfl⟩
          · walk_at "ws"
            exact kN _ _ ⟨_, rfl, rfl⟩
        · rintro σ _ ⟨b, rfl, rfl⟩
          have g46 := g5.up.trans g6
          have g26 := g4.trans g46
          have h6t := g46.keep tl _ (fun q e => by cases e; exact ntl) h4t
          walk_at "ws"
          refine i_BM h6t ?_
          walk_at "ws"
          cases b with
          | false =>
            walk_at "ws"
            refine r_app h6t (by rw [List.length_map]; omega) ?_
            walk_at "ws"
            exact ⟨_, _, _, us ++ [none], rfl, g26.mut htl (fun q e => by cases e; exact hh2), (g26.mut htl (fun q e => by cases e; exact hh2)).hand (hd, c) rfl hh2, by rw [upd_same, List.map_append]; rfl, by rw [List.length_append, lus]; rfl⟩
          | true =>
            walk_at "ws"
            refine ⟨la, _, rfl, .inl (SqL.of h6), ?_⟩
            rw [List.length_map]
            walk_at "ws"
            refine ⟨hd, c, (fs.length : Int), rfl, hh6, by omega, by omega, fun r H7 r0 r1 g7 hh7 => ?_⟩
            have h7a := g7.keep la _ (fun q e => by cases e; exact nla) h6
            have h7t := g7.keep tl _ (fun q e => by cases e; exact ntl) h6t
            obtain ⟨z, hz⟩ : ∃ z, fs[r.toNat]? = some z := ⟨_, List.getElem?_eq_getElem (by omega)⟩
            refine r_ixL (SqL.of h7a) (v := .int z) (at_of (j := r.toNat) (by omega) (by rw [List.getElem?_map, hz]; rfl)) ?_
            walk_at "ws"
            refine r_app h7t (by rw [List.length_map]; omega) ?_
            walk_at "ws"
            exact ⟨_, _, _, us ++ [some z], rfl, (g26.trans g7).mut htl (fun q e => by cases e; exact hh2), ((g26.trans g7).mut htl (fun q e => by cases e; exact hh2)).hand (hd, c) rfl hh2, by rw [upd_same, List.map_append]; rfl, by rw [List.length_append, lus]; rfl⟩
    · rintro σ H4 ⟨u8, u9, u10, us, rfl, g4, hh4, h4t, lus⟩
      have g14 := g2.up.trans g4
      have h4D := g14.keep D _ (fun q e => by cases e; exact nD) h1D
      walk_at "ws"
      refine i_BM h4D ?_
      walk_at "ws"
      refine ⟨tl, _, rfl, .inl ⟨SqL.of h4t, fun q H5 hq g5 h5 => ?_⟩⟩
      walk_at "ws"
      have h5D := (g5 none).all _ _ h4D
      have g15 := g14.trans (g5 none).up
      refine r_app h5D (by rw [List.length_map, tsl.1]; omega) ?_
      walk_at "ws"
      have tS : Ts H5 (upd H5 D (.lst (qs.map V.ref ++ [.ref q]))) := Ts.updl h5D
      exact ⟨_, _, _, _, _, _, qs ++ [q], uss ++ [us], rfl, (g1.trans g15).mut hD hdg, ((g1.trans g15).mut hD hdg).hand (hd, c) rfl hh, by rw [upd_same, List.map_append]; rfl, ((tsl.t g15.tups).app lus (.inl h5)).t tS⟩
  · rintro σ H1 ⟨u5, u6, u7, u8, u9, u10, qs, uss, rfl, g1, hh1, h1D, tsl⟩
    walk_at "ws"
    refine ⟨D, _, rfl, .inl ⟨SqL.of h1D, fun t H2 ht g2 h2 => ?_⟩⟩
    exact k t H2 (g1.trans (g2 none).up) ((g2 none).up.hand (hd, c) rfl hh1) ⟨qs, uss, .inl h2, tsl.t (g2 none).tups⟩

end
end Mine
/-! ## K69 -/


namespace Mine
section
variable {P : Program} {w : World} {K : PySem.W.Frag} {mg : Str → Option Value} {base : Heap} {a : Ads}

/-! ### trees with something changed -/
theorem oth_put {C : Addr → Prop} {H : Hp} {R : Addr} {ys xs : List V} (h : H R = some (.lst ys)) {a : Addr} (o : Oth C H a) : Oth C (upd H R (.lst xs)) a := by
  by_cases e : a = R
  · subst e
    exact .inl ⟨xs, upd_same⟩
  · exact o.k fun u z => by rw [upd_ne e]; exact z
mutual
theorem Ab.k2 {C : Addr → Prop} {hd : Addr} {H H' : Hp} (t : Ts H H') (k : ∀ a, Oth C H a → Oth C H' a) : ∀ (g : Tg) (v : V), Ab C hd H v g → Ab C hd H' v g
  | .non, _, h => by cases h; exact .non
  | .bl b, _, h => by cases h; exact .bl b
  | .int b, _, h => by cases h; exact .int b
  | .str b, _, h => by cases h; exact .str b
  | .oth, _, h => by
    cases h with
    | oth n o => exact .oth n (k _ o)
  | .tup ts, _, h => by
    cases h with
    | tup r a => exact .tup (t _ _ r) (AbAll.k2 t k ts _ a)
theorem AbAll.k2 {C : Addr → Prop} {hd : Addr} {H H' : Hp} (t : Ts H H') (k : ∀ a, Oth C H a → Oth C H' a) : ∀ (gs : List Tg) (vs : List V), AbAll C hd H vs gs → AbAll C hd H' vs gs
  | [], _, h => by cases h; exact .nil
  | g :: gs, _, h => by
    cases h with
    | cons h1 h2 => exact .cons (Ab.k2 t k g _ h1) (AbAll.k2 t k gs _ h2)
end
theorem al_put {C : Addr → Prop} {hd : Addr} {H : Hp} {R : Addr} {ys xs vs : List V} {ts : List Tg} (h : H R = some (.lst ys)) (al : AbAll C hd H vs ts) : AbAll C hd (upd H R (.lst xs)) vs ts := AbAll.k2 (Ts.updl h) (fun _ o => oth_put h o) ts vs al
theorem ab_cut {C : Addr → Prop} {hd : Addr} {H : Hp} {xs : List V} {ts : List Tg} (h : AbAll C hd H xs ts) (lo hi : Option Int) : ∃ us, AbAll C hd H (cutV xs lo hi) us ∧ (∀ t ∈ us, t ∈ ts) ∧ us.length ≤ ts.length := by
  unfold cutV
  refine ⟨_, (h.drop _).take _, fun t ht => List.mem_of_mem_drop (List.mem_of_mem_take ht), ?_⟩
  rw [List.length_take, List.length_drop]
  omega
theorem cut_le (xs : List V) (lo hi : Option Int) : (cutV xs lo hi).length ≤ xs.length := by
  unfold cutV
  rw [List.length_take, List.length_drop]
  omega
theorem tv_all {C : Addr → Prop} {hd : Addr} {H : Hp} : ∀ us : List (Option Int), AbAll C hd H (us.map tv) (us.map tvT)
  | [] => .nil
  | none :: us => .cons .non (tv_all us)
  | some i :: us => .cons (.int i) (tv_all us)
theorem tv_sm (us : List (Option Int)) : ∀ t ∈ us.map tvT, smT t = true := fun t ht => by
  obtain ⟨u, _, rfl⟩ := List.mem_map.mp ht
  cases u <;> rfl
theorem tsl_all {C : Addr → Prop} {hd : Addr} {H : Hp} {n : Nat} : ∀ {k : Nat} {qs : List Addr} {uss : List (List (Option Int))}, TsL H qs uss k n → AbAll C hd H (qs.map V.ref) (uss.map fun us => .tup (us.map tvT))
  | _, [], [], _ => .nil
  | _, [], _ :: _, h => by have := h.1; have := h.2.1; simp at *; omega
  | _, _ :: _, [], h => by have := h.1; have := h.2.1; simp at *; omega
  | k, q :: qs, us :: uss, h => by
    obtain ⟨h1, h2, h3, h4⟩ := h
    refine .cons (.tup (h4 0 q us rfl rfl) (tv_all us)) (tsl_all (k := k - 1) (n := n) ⟨by rw [← h1]; rfl, by rw [← h2]; rfl, fun v hv => h3 v (List.mem_cons_of_mem _ hv), fun j q' us' e1 e2 => h4 (j + 1) q' us' e1 e2⟩)
theorem tsl_sm {H : Hp} {qs : List Addr} {uss : List (List (Option Int))} {k n : Nat} (h : TsL H qs uss k n) (hn : n ≤ 60) : ∀ t ∈ uss.map fun us => Tg.tup (us.map tvT), smT t = true := fun t ht => by
  obtain ⟨us, hu, rfl⟩ := List.mem_map.mp ht
  exact smT_of (by rw [List.length_map, h.2.2.1 us hu]; exact hn) (tv_sm us)
theorem sm_app {ts us : List Tg} (h : ∀ t ∈ ts, smT t = true) (k : ∀ t ∈ us, smT t = true) : ∀ t ∈ ts ++ us, smT t = true := fun t ht => (List.mem_append.mp ht).elim (h t) (k t)
theorem sm_one {u : Tg} (h : smT u = true) : ∀ t ∈ [u], smT t = true := fun t ht => by
  have e : t = u := by simpa using ht
  rw [e]; exact h
/-- a thing put in at a place: what is told of it -/
theorem put_in {C : Addr → Prop} {hd : Addr} {H' : Hp} {p : Addr} {xs : List V} {ts : List Tg} {x : V} {t : Tg} {lo hi : Option Int} (al : AbAll C hd H' xs ts) (sm : ∀ t ∈ ts, smT t = true) (lt : ts.length ≤ 20) (hx : Ab C hd H' x t) (sx : smT t = true) (r : Rd H' p (.tup ((cutV xs none lo ++ [x]) ++ cutV xs hi none))) : ∃ u, Ab C hd H' (.ref p) u ∧ smT u = true := by
  obtain ⟨u1, a1, b1, l1⟩ := ab_cut al none lo
  obtain ⟨u2, a2, b2, l2⟩ := ab_cut al hi none
  refine ⟨.tup ((u1 ++ [t]) ++ u2), .tup r ((a1.app (.cons hx .nil)).app a2), smT_of (by rw [List.length_append, List.length_append, List.length_singleton]; omega) (sm_app (sm_app (fun t h => sm t (b1 t h)) (sm_one sx)) fun t h => sm t (b2 t h))⟩
def sp__law_bent_trees (C : Addr → Prop) : Sp := fun vs H Q _ => ∃ (hd c t : Addr) (v2 : V) (t2 : Tg) (k n : Nat), vs = [.ref hd, .ref t, v2] ∧ Hand H hd c ∧ TrsV H t k n ∧ k ≤ 20 ∧ 1 ≤ n ∧ n ≤ 7 ∧ Ab C hd H v2 t2 ∧ smT t2 = true ∧
  ∀ (v : V) (u : Tg) H', G (some (hd, c)) H H' → Hand H' hd c → Ab C hd H' v u → smT u = true → Q v H'
theorem ok__law_bent_trees (T : Txt K mg a) : FnOk P w K mg base CX0 2 a.f__law_bent_trees a.d__law_bent_trees P__law_bent_trees (sp__law_bent_trees (Cs a)) := by
  refine T.F__law_bent_trees.ok sc__law_bent_trees (fun vs H Q E h => by obtain ⟨hd, c, t, v2, t2, k, n, rfl, _⟩ := h; rfl) (fun cdv A outer s H vs Q E hr h => ?_)
  obtain ⟨hd, c, t, v2, t2, k, n, rfl, hh, ⟨qs, uss, rt, tsl⟩, k20, n1, n7, ha2, sm2, kk⟩ := h
  have G__law_draw : FnOk P w K mg base CX0 1 a.f__law_draw a.d__law_draw P__law_draw sp__law_draw := ok__law_draw T
  obtain ⟨lq, lu, ln, hq⟩ := id tsl
  have sms := tsl_sm tsl (by omega)
  refine ⟨_, (pss_cons (ps_if (pt_cmpR op_eq (pe_callB call_len_seq (by rfl) T.n_len (by decide +kernel) (pa_cons (pv 1) pa_nil)) pe_int (nomark _))
    (pss_one (ps_ret (pe_ix ix_list (pe_lstN (pa_cons (pv 1) (pa_cons (pe_lstN pa_nil) (pa_cons (pv 2) (pa_cons (pe_tupN (pa_cons (pv 2) pa_nil)) pa_nil))))) (pe_call (G__law_draw) (hr.mono (by omega)) rfl T.m__law_draw T.F__law_draw.kp T.b__law_draw .nil pass0 (pa_cons (pv 0) (pa_cons pe_int pa_nil))) (fun _ _ => rfl))))
    pss_nil)
  (pss_cons (ps_set (i := 3) sc__law_bent_trees.nd rfl (Or.inr rfl) (pe_call (G__law_draw) (hr.mono (by omega)) rfl T.m__law_draw T.F__law_draw.kp T.b__law_draw .nil pass0 (pa_cons (pv 0) (pa_cons (pe_callB call_len_seq (by rfl) T.n_len (by decide +kernel) (pa_cons (pv 1) pa_nil)) pa_nil))))
  (pss_cons (ps_set (i := 4) sc__law_bent_trees.nd rfl (Or.inr rfl) (pe_ix ix_tup (pv 1) (pv 3) (fun _ _ => rfl)))
  (pss_cons (ps_set (i := 5) sc__law_bent_trees.nd rfl (Or.inr rfl) (pe_call (G__law_draw) (hr.mono (by omega)) rfl T.m__law_draw T.F__law_draw.kp T.b__law_draw .nil pass0 (pa_cons (pv 0) (pa_cons (pe_callB call_len_seq (by rfl) T.n_len (by decide +kernel) (pa_cons (pv 4) pa_nil)) pa_nil))))
  (pss_cons (ps_setLc (i := 6) (own := [("_law_thing", 8)]) (g := (gName 8)) (tt := tYes)  rfl sc__law_bent_trees.nd rfl rfl (sw_true rfl rfl rfl (by decide +kernel)) (pi_list (pe_lstN (pa_cons (pv 2) (pa_cons pe_non (pa_cons pe_int (pa_cons pe_bl (pa_cons (pe_un un_neg pe_int) (pa_cons (pe_callB call_len_seq (by rfl) T.n_len (by decide +kernel) (pa_cons (pv 4) pa_nil)) pa_nil)))))))) (blkOk_by (N := N__law_bent_trees) (sc := defScope s__law_bent_trees) (by decide +kernel)) (fun _ _ _ _ _ => (pg_name (i := 8) sc__law_bent_trees.nd rfl (by first | exact Or.inl rfl | exact Or.inr rfl))) (fun _ _ _ _ _ => pts_nil) (fun _ _ _ _ _ => (pe_op op_catR (pe_op op_catR (pe_slice sl_tupR (pv 4) po_none (po_some (pv 5))) (pe_tupN (pa_cons (pv 8) pa_nil))) (pe_slice sl_tupR (pv 4) (po_some (pe_op op_add (pv 5) pe_int)) po_none))))
  (pss_cons (ps_set (i := 6) sc__law_bent_trees.nd rfl (Or.inl rfl) (pe_op op_catLN (pv 6) (pe_lstN (pa_cons (pe_slice sl_tupR (pv 4) (po_some pe_int) po_none) (pa_cons (pe_op op_catR (pv 4) (pe_tupN (pa_cons pe_non pa_nil))) (pa_cons (pe_callTy call_listN (by rfl) T.n_list (by decide +kernel) (pa_cons (pv 4) pa_nil)) (pa_cons (pv 2) pa_nil)))))))
  (pss_cons (ps_setLc (i := 7) (own := [("_law_thing", 8)]) (g := (gName 8)) (tt := tYes)  rfl sc__law_bent_trees.nd rfl rfl (sw_true rfl rfl rfl (by decide +kernel)) (pi_list (pv 6)) (blkOk_by (N := N__law_bent_trees) (sc := defScope s__law_bent_trees) (by decide +kernel)) (fun _ _ _ _ _ => (pg_name (i := 8) sc__law_bent_trees.nd rfl (by first | exact Or.inl rfl | exact Or.inr rfl))) (fun _ _ _ _ _ => pts_nil) (fun _ _ _ _ _ => (pe_op op_catR (pe_op op_catR (pe_slice sl_tupR (pv 1) po_none (po_some (pv 3))) (pe_tupN (pa_cons (pv 8) pa_nil))) (pe_slice sl_tupR (pv 1) (po_some (pe_op op_add (pv 3) pe_int)) po_none))))
  (pss_cons (ps_set (i := 7) sc__law_bent_trees.nd rfl (Or.inl rfl) (pe_op op_catLN (pv 7) (pe_lstN (pa_cons (pe_callTy call_listN (by rfl) T.n_list (by decide +kernel) (pa_cons (pv 1) pa_nil)) (pa_cons (pe_slice sl_tupR (pv 1) po_none (po_some (pe_un un_neg pe_int))) (pa_cons (pe_op op_catR (pv 1) (pe_slice sl_tupR (pv 1) po_none (po_some pe_int))) (pa_cons (pv 2) pa_nil)))))))
  (pss_one (ps_ret (pe_ix ix_list (pv 7) (pe_call (G__law_draw) (hr.mono (by omega)) rfl T.m__law_draw T.F__law_draw.kp T.b__law_draw .nil pass0 (pa_cons (pv 0) (pa_cons pe_int pa_nil))) (fun _ _ => rfl)))))))))))), ?_⟩
  walk_at "ws"
  refine ⟨t, _, rfl, .inr (.inl rt), ?_⟩
  rw [List.length_map, lq]
  walk_at "ws"
  refine w_ite (fun e => ?_) (fun e => ?_)
  · walk_at "ws"
    refine ⟨sz (by simp), fun p1 H1 hp1 g1 h1 => ?_⟩
    walk_at "ws"
    refine ⟨sz (by simp), fun p2 H2 hp2 g2 h2 => ?_⟩
    walk_at "ws"
    refine ⟨sz (by simp), fun p3 H3 hp3 g3 h3 => ?_⟩
    have q3 := ((g1 none).trans (g2 none)).trans (g3 none)
    have hh3 := q3.up.hand (hd, c) rfl hh
    have n1 : p1 ≠ hd := hh.ne hp1
    have n3 : p3 ≠ hd := (((g1 none).trans (g2 none)).up.hand (hd, c) rfl hh).ne hp3
    have q23 := (g2 none).trans (g3 none)
    walk_at "ws"
    refine ⟨hd, c, 4, rfl, hh3, by decide, by decide, fun r H4 r0 r1 g4 hh4 => ?_⟩
    have h4 := g4.keep p3 _ (fun q e => by cases e; exact n3) h3
    have al : AbAll (Cs a) hd H3 [.ref t, .ref p1, v2, .ref p2] [.tup (uss.map fun us => .tup (us.map tvT)), .oth, t2, .tup [t2]] :=
      .cons (.tup (q3.tups _ _ rt) (tsl_all (tsl.t q3.tups))) (.cons (ab_lst n1 (q23.all _ _ h1)) (.cons (ha2.n q3) (.cons (.tup (.inl ((g3 none).all _ _ h2)) (.cons (ha2.n q3) .nil)) .nil)))
    obtain ⟨v', t', e', m', hv'⟩ := at_ab (al.g g4 OH.s) r0 (by simpa using r1)
    refine r_ixL (SqL.of h4) e' ?_
    refine kk v' t' H4 (q3.up.trans g4) hh4 hv' ?_
    simp only [List.mem_cons, List.not_mem_nil, or_false] at m'
    rcases m' with rfl | rfl | rfl | rfl
    · exact smT_of (by rw [List.length_map, lu]; omega) sms
    · rfl
    · exact sm2
    · exact smT_of (by simp) (sm_one sm2)
  have k0 : 0 < k := by
    have e : ¬ (k : Int) = 0 := by simpa using e
    omega
  clear e
  walk_at "ws"
  refine ⟨t, _, rfl, .inr (.inl rt), ?_⟩
  rw [List.length_map, lq]
  walk_at "ws"
  refine ⟨hd, c, (k : Int), rfl, hh, by omega, by omega, fun at_ H1 a0 a1 g1 hh1 => ?_⟩
  obtain ⟨q, hqa⟩ : ∃ q, qs[at_.toNat]? = some q := ⟨_, List.getElem?_eq_getElem (by omega)⟩
  obtain ⟨us, hua⟩ : ∃ us, uss[at_.toNat]? = some us := ⟨_, List.getElem?_eq_getElem (by omega)⟩
  have rq := hq _ _ _ hqa hua
  have lus : us.length = n := ln us (List.mem_of_getElem? hua)
  walk_at "ws"
  refine r_ixT (.inl (g1.tups _ _ rt)) (v := .ref q) (at_of (j := at_.toNat) (by omega) (by rw [List.getElem?_map, hqa]; rfl)) ?_
  walk_at "ws"
  refine ⟨q, _, rfl, .inr (.inl (g1.tups _ _ rq)), ?_⟩
  rw [List.length_map, lus]
  walk_at "ws"
  refine ⟨hd, c, (n : Int), rfl, hh1, by omega, by omega, fun pl H2 p0 p1 g2 hh2 => ?_⟩
  have g02 := g1.trans g2
  have rq2 := g02.tups _ _ rq
  have rt2 := g02.tups _ _ rt
  have ha22 := ha2.g g02 OH.s
  have tsl2 := tsl.t g02.tups
  clear hh1 g1 g2
  walk_at "ws"
  refine ⟨q, _, rfl, .inr (.inl rq2), ?_⟩
  rw [List.length_map, lus]
  walk_at "ws"
  refine ⟨sz (by simp), fun l3 H3 hl3 g3 h3 => ?_⟩
  walk_at "ws"
  obtain ⟨L, eL⟩ : ∃ L : List V, L = [v2, .non, .int 0, .bl true, .int (-1), .int (n : Nat)] := ⟨_, rfl⟩
  obtain ⟨U, eU⟩ : ∃ U : List Tg, U = [t2, .non, .int 0, .bl true, .int (-1), .int (n : Nat)] := ⟨_, rfl⟩
  have lL : L.length = 6 := by rw [eL]; rfl
  have lU : U.length = 6 := by rw [eU]; rfl
  have ha23 := ha22.n (g3 none)
  have al3 : AbAll (Cs a) hd H3 L U := by
    rw [eL, eU]
    exact .cons ha23 (.cons .non (.cons (.int _) (.cons (.bl _) (.cons (.int _) (.cons (.int _) .nil)))))
  have smU : ∀ t ∈ U, smT t = true := fun t ht => by
    rw [eU] at ht
    simp only [List.mem_cons, List.not_mem_nil, or_false] at ht
    rcases ht with rfl | rfl | rfl | rfl | rfl | rfl
    · exact sm2
    all_goals rfl
  have h3 : H3 l3 = some (.lst L) := by rw [eL]; exact h3
  clear eL eU
  have rq3 := (g3 none).tups _ _ rq2
  have rt3 := (g3 none).tups _ _ rt2
  have tsl3 := tsl2.t (g3 none).tups
  have hh3 := (g3 none).up.hand (hd, c) rfl hh2
  have g03 := g02.trans (g3 none).up
  refine i_list (SqL.of h3) ?_
  intro R hR
  refine lc_it (walk_list (xs := L)) (fun i H' => G none H3 H' ∧ ∃ (vs : List V) (ts : List Tg), H' R = some (.lst vs) ∧ AbAll (Cs a) hd H' vs ts ∧ (∀ t ∈ ts, smT t = true) ∧ vs.length = i) ⟨(G.refl).mut hR (fun _ e => nomatch e), [], [], upd_same, .nil, fun _ h => (by cases h), rfl⟩ (fun i H' _ g => sqL_n g.1 (SqL.of h3)) ?_ ?_
  · rintro i v _ H4 hi ⟨g4, vs, ts, h4, al4, sm4, lv⟩ ⟨rfl, hv⟩
    obtain ⟨u, hu, hau⟩ := al3.get hv
    have hau := hau.n g4
    have smu := smU u (List.mem_of_getElem? hu)
    show gName 8 v _ _ _
    walk_at "ws"
    refine ⟨rfl, ?_⟩
    walk_at "ws"
    refine ⟨q, _, rfl, g4.tups _ _ rq3, fun p5 H5 g5 r5 => ?_⟩
    walk_at "ws"
    refine ⟨sz (by simp), fun p6 H6 hp6 g6 h6 => ?_⟩
    walk_at "ws"
    have c1 := cut_le (us.map tv) none (some pl)
    have c2 := cut_le (us.map tv) (some (pl + 1)) none
    rw [List.length_map, lus] at c1 c2
    refine ⟨p5, p6, _, _, rfl, rfl, (g6 none).tups _ _ r5, .inl h6, by simp only [List.length_singleton]; omega, fun p7 H7 g7 r7 => ?_⟩
    walk_at "ws"
    have g46 := (g5 none).trans (g6 none)
    have g47 := g46.trans (g7 none)
    refine ⟨q, _, rfl, (g4.trans g47).tups _ _ rq3, fun p8 H8 g8 r8 => ?_⟩
    walk_at "ws"
    refine ⟨p7, p8, _, _, rfl, rfl, (g8 none).tups _ _ r7, r8, by rw [List.length_append, List.length_singleton]; omega, fun p9 H9 g9 r9 => ?_⟩
    have g49 := (g47.trans (g8 none)).trans (g9 none)
    obtain ⟨w1, b1, b2⟩ := put_in (lo := some pl) (hi := some (pl + 1)) (tv_all us) (tv_sm us) (by rw [List.length_map]; omega) (hau.n g49) smu r9
    have h9 := g49.all _ _ h4
    refine ⟨vs, h9, Nat.lt_of_le_of_lt (by omega : vs.length ≤ 1000) (by decide), (g4.trans g49).mut hR (fun _ e => nomatch e), vs ++ [.ref p9], ts ++ [w1], upd_same, al_put h9 ((al4.n g49).app (.cons b1 .nil)), sm_app sm4 (sm_one b2), by rw [List.length_append, lv]; rfl⟩
  rintro H4 ⟨g4, vs, ts, h4, al4, sm4, lv⟩
  rw [lL] at lv
  have rq4 := g4.tups _ _ rq3
  walk_at "ws"
  refine ⟨q, _, rfl, rq4, fun p5 H5 g5 r5 => ?_⟩
  walk_at "ws"
  refine ⟨sz (by simp), fun p6 H6 hp6 g6 h6 => ?_⟩
  walk_at "ws"
  have g46 := (g5 none).trans (g6 none)
  refine ⟨q, p6, _, _, rfl, rfl, g46.tups _ _ rq4, .inl h6, by rw [List.length_map, lus, List.length_singleton]; omega, fun p7 H7 g7 r7 => ?_⟩
  walk_at "ws"
  have g47 := g46.trans (g7 none)
  refine ⟨q, _, rfl, .inr (.inl (g47.tups _ _ rq4)), fun l8 H8 hl8 g8 h8 => ?_⟩
  walk_at "ws"
  refine ⟨sz (by simp), fun l9 H9 hl9 g9 h9 => ?_⟩
  have g48 := g47.trans (g8 none)
  have g49 := g48.trans (g9 none)
  have h9R := g49.all _ _ h4
  walk_at "ws"
  have hh4 := g4.up.hand (hd, c) rfl hh3
  have hh7 := g47.up.hand (hd, c) rfl hh4
  have n8 : l8 ≠ hd := hh7.ne hl8
  have ha24 := ha23.n g4
  have al9 : ∃ us2, AbAll (Cs a) hd H9 [.ref p5, .ref p7, .ref l8, v2] us2 ∧ ∀ t ∈ us2, smT t = true := by
    obtain ⟨u1, a1, b1, c1⟩ := ab_cut (C := Cs a) (hd := hd) (H := H9) (tv_all us) (some 1) none
    rw [List.length_map] at c1
    refine ⟨[.tup u1, .tup (us.map tvT ++ [.non]), .oth, t2], .cons (.tup ((((g6 none).trans (g7 none)).trans ((g8 none).trans (g9 none))).tups _ _ r5) a1) (.cons (.tup (((g8 none).trans (g9 none)).tups _ _ r7) ((tv_all us).app (.cons .non .nil))) (.cons (ab_lst n8 ((g9 none).all _ _ h8)) (.cons (ha24.n g49) .nil))), fun t ht => ?_⟩
    simp only [List.mem_cons, List.not_mem_nil, or_false] at ht
    rcases ht with rfl | rfl | rfl | rfl
    · exact smT_of (by omega) fun t h => tv_sm us t (b1 t h)
    · exact smT_of (by rw [List.length_append, List.length_map, List.length_singleton]; omega) (sm_app (tv_sm us) (sm_one rfl))
    · rfl
    · exact sm2
  obtain ⟨us2, al9, sm9⟩ := al9
  refine ⟨R, l9, _, _, rfl, rfl, h9R, h9, by rw [lv]; simp, fun lA HA hlA gA hA => ?_⟩
  have g4A := g49.trans (gA none)
  have alA := (al4.n g4A).app (al9.n (gA none))
  have smA := sm_app sm4 sm9
  have g0A := (g03.trans g4.up).trans g4A.up
  have ha2A := ha24.n g4A
  have rtA := (g4.trans g4A).tups _ _ rt3
  have tslA := tsl3.t (g4.trans g4A).tups
  have hhA := g4A.up.hand (hd, c) rfl hh4
  obtain ⟨L2, eL2⟩ : ∃ L2 : List V, L2 = vs ++ [.ref p5, .ref p7, .ref l8, v2] := ⟨_, rfl⟩
  obtain ⟨U2, eU2⟩ : ∃ U2 : List Tg, U2 = ts ++ us2 := ⟨_, rfl⟩
  rw [← eL2] at hA alA
  rw [← eU2] at alA smA
  have lL2 : L2.length = 10 := by rw [eL2, List.length_append, lv]; rfl
  clear al9 sm9 al4 sm4 eL2 eU2 h9 h9R h8 h6 r5 r7 h4 al3 h3 g4A g49 g48 g47 g46 g4 ha22 ha23 ha24 rq2 rq3 rq4 rt2 rt3 tsl2 tsl3
  walk_at "ws"
  refine i_list (SqL.of hA) ?_
  intro R2 hR2
  refine lc_it (walk_list (xs := L2)) (fun i H' => G none HA H' ∧ ∃ (vs : List V) (ts : List Tg), H' R2 = some (.lst vs) ∧ AbAll (Cs a) hd H' vs ts ∧ (∀ t ∈ ts, smT t = true) ∧ vs.length = i) ⟨(G.refl).mut hR2 (fun _ e => nomatch e), [], [], upd_same, .nil, fun _ h => (by cases h), rfl⟩ (fun i H' _ g => sqL_n g.1 (SqL.of hA)) ?_ ?_
  · rintro i v _ H4 hi ⟨g4, vs, ts, h4, al4, sm4, lv⟩ ⟨rfl, hv⟩
    obtain ⟨u, hu, hau⟩ := alA.get hv
    have hau := hau.n g4
    have smu := smA u (List.mem_of_getElem? hu)
    show gName 8 v _ _ _
    walk_at "ws"
    refine ⟨rfl, ?_⟩
    walk_at "ws"
    refine ⟨t, _, rfl, g4.tups _ _ rtA, fun p5 H5 g5 r5 => ?_⟩
    walk_at "ws"
    refine ⟨sz (by simp), fun p6 H6 hp6 g6 h6 => ?_⟩
    walk_at "ws"
    have c1 := cut_le (qs.map V.ref) none (some at_)
    have c2 := cut_le (qs.map V.ref) (some (at_ + 1)) none
    rw [List.length_map, lq] at c1 c2
    refine ⟨p5, p6, _, _, rfl, rfl, (g6 none).tups _ _ r5, .inl h6, by simp only [List.length_singleton]; omega, fun p7 H7 g7 r7 => ?_⟩
    walk_at "ws"
    have g46 := (g5 none).trans (g6 none)
    have g47 := g46.trans (g7 none)
    refine ⟨t, _, rfl, (g4.trans g47).tups _ _ rtA, fun p8 H8 g8 r8 => ?_⟩
    walk_at "ws"
    refine ⟨p7, p8, _, _, rfl, rfl, (g8 none).tups _ _ r7, r8, by rw [List.length_append, List.length_singleton]; omega, fun p9 H9 g9 r9 => ?_⟩
    have g49 := (g47.trans (g8 none)).trans (g9 none)
    obtain ⟨w1, b1, b2⟩ := put_in (lo := some at_) (hi := some (at_ + 1)) (tsl_all (tslA.t (g4.trans g49).tups)) sms (by rw [List.length_map, lu]; omega) (hau.n g49) smu r9
    have h9 := g49.all _ _ h4
    refine ⟨vs, h9, Nat.lt_of_le_of_lt (by omega : vs.length ≤ 1000) (by decide), (g4.trans g49).mut hR2 (fun _ e => nomatch e), vs ++ [.ref p9], ts ++ [w1], upd_same, al_put h9 ((al4.n g49).app (.cons b1 .nil)), sm_app sm4 (sm_one b2), by rw [List.length_append, lv]; rfl⟩
  rintro H4 ⟨g4, vs2, ts2, h4, al4, sm4, lv2⟩
  rw [lL2] at lv2
  have rt4 := g4.tups _ _ rtA
  walk_at "ws"
  refine ⟨t, _, rfl, .inr (.inl rt4), fun l5 H5 hl5 g5 h5 => ?_⟩
  walk_at "ws"
  refine ⟨t, _, rfl, (g5 none).tups _ _ rt4, fun p6 H6 g6 r6 => ?_⟩
  walk_at "ws"
  have g46 := (g5 none).trans (g6 none)
  refine ⟨t, _, rfl, g46.tups _ _ rt4, fun p7 H7 g7 r7 => ?_⟩
  walk_at "ws"
  have g47 := g46.trans (g7 none)
  have c1 := cut_le (qs.map V.ref) none (some 1)
  rw [List.length_map, lq] at c1
  refine ⟨t, p7, _, _, rfl, rfl, g47.tups _ _ rt4, r7, by rw [List.length_map, lq]; omega, fun p8 H8 g8 r8 => ?_⟩
  walk_at "ws"
  refine ⟨sz (by simp), fun l9 H9 hl9 g9 h9 => ?_⟩
  have g48 := g47.trans (g8 none)
  have g49 := g48.trans (g9 none)
  have h9R := g49.all _ _ h4
  walk_at "ws"
  have hh4 := g4.up.hand (hd, c) rfl hhA
  have n5 : l5 ≠ hd := hh4.ne hl5
  have ha24 := ha2A.n g4
  have tsl9 := tslA.t (g4.trans g49).tups
  have al9 : ∃ us2, AbAll (Cs a) hd H9 [.ref l5, .ref p6, .ref p8, v2] us2 ∧ ∀ t ∈ us2, smT t = true := by
    have A := tsl_all (C := Cs a) (hd := hd) tsl9
    obtain ⟨u1, a1, b1, c1⟩ := ab_cut A none (some (-1))
    obtain ⟨u2, a2, b2, c2⟩ := ab_cut A none (some 1)
    rw [List.length_map] at c1 c2
    refine ⟨[.oth, .tup u1, .tup (uss.map (fun us => .tup (us.map tvT)) ++ u2), t2], .cons (ab_lst n5 ((((g6 none).trans (g7 none)).trans ((g8 none).trans (g9 none))).all _ _ h5)) (.cons (.tup (((g7 none).trans ((g8 none).trans (g9 none))).tups _ _ r6) a1) (.cons (.tup ((g9 none).tups _ _ r8) (A.app a2)) (.cons (ha24.n g49) .nil))), fun t ht => ?_⟩
    simp only [List.mem_cons, List.not_mem_nil, or_false] at ht
    rcases ht with rfl | rfl | rfl | rfl
    · rfl
    · exact smT_of (by omega) fun t h => sms t (b1 t h)
    · exact smT_of (by rw [List.length_append, List.length_map]; omega) (sm_app sms fun t h => sms t (b2 t h))
    · exact sm2
  obtain ⟨us3, al9, sm9⟩ := al9
  refine ⟨R2, l9, _, _, rfl, rfl, h9R, h9, by rw [lv2]; simp, fun lB HB hlB gB hB => ?_⟩
  have g4B := g49.trans (gB none)
  have alB := (al4.n g4B).app (al9.n (gB none))
  have hhB := g4B.up.hand (hd, c) rfl hh4
  have nB : lB ≠ hd := (g49.up.hand (hd, c) rfl hh4).ne hlB
  walk_at "ws"
  refine ⟨hd, c, 14, rfl, hhB, by decide, by decide, fun r Hf r0 r1 gf hhf => ?_⟩
  have hf := gf.keep lB _ (fun q e => by cases e; exact nB) hB
  obtain ⟨v', t', e', m', hv'⟩ := at_ab (alB.g gf OH.s) r0 (by rw [List.length_append, lv2]; simpa using r1)
  refine r_ixL (SqL.of hf) e' ?_
  exact kk v' t' Hf (((g0A.trans g4.up).trans g4B.up).trans gf) hhf hv' (sm_app sm4 sm9 t' m')

end
end Mine
/-! ## K70 -/


namespace Mine
section
variable {P : Program} {w : World} {K : PySem.W.Frag} {mg : Str → Option Value} {base : Heap} {a : Ads}

/-! ### bars that are drawn -/
def tTupRgN (te : L2.St → Hp → (Int → Int → Hp → Prop) → Prop) : TE := fun σ H Q => te σ H fun a b H1 => RgOk a b ∧ New H1 (.tup (rgV a b)) fun q H2 => Q (.ref q) H2
theorem pe_tupRgN {X : Cx} {e : Expr} {te : L2.St → Hp → (Int → Int → Hp → Prop) → Prop} {p pos : Pos} (hc : X.calm = true) (hg : Gl X "tuple") (hm : X.mg "tuple" = none) (he : PRg X e te) (mo : MoR te) (na : starEach [e] X.env = (false, eval e X.env) :: starEach [] X.env := by rfl) : PE X (.Call (.Name "tuple" p) [e] [] pos) (tTupRgN te) :=
  PE.weak (pe_tupRg hc hg hm he na) fun σ H Q q => mo σ H _ _ (fun a b H1 h => ⟨h.1, fun q hq => h.2.go hq⟩) q
theorem w_tupRg {te : L2.St → Hp → (Int → Int → Hp → Prop) → Prop} {σ : L2.St} {H : Hp} {Q : VK} (q : te σ H fun a b H1 => RgOk a b ∧ New H1 (.tup (rgV a b)) fun q H2 => Q (.ref q) H2) : tTupRgN te σ H Q := q
def rRepL : R2 := fun x y H Q => ∃ (l : Addr) (k : Int) (xs : List V), x = .ref l ∧ y = .int k ∧ H l = some (.lst xs) ∧ 0 ≤ k ∧ k ≤ 1000 ∧ xs.length ≤ 60 ∧ New H (.lst (List.replicate k.toNat xs).flatten) fun p H2 => Q (.ref p) H2
theorem op_repL {X : Cx} : OpR X (binaryOp .Mult) rRepL := OpR.weak op_rep fun x y H Q ⟨l, k, xs, e1, e2, h1, h2, h3, h4, q⟩ => ⟨l, k, xs, e1, e2, h1, by omega, by omega, Nat.le_trans (Nat.mul_le_mul h4 (by omega : k.toNat ≤ 1000)) (by decide), fun p hp => q.go hp⟩
theorem ab_pick {C : Addr → Prop} {hd : Addr} {H : Hp} {xs : List V} {ts : List Tg} (h : AbAll C hd H xs ts) (f : Nat → Nat) : ∀ l : List Nat, AbAll C hd H (l.filterMap fun k => xs[f k]?) (l.filterMap fun k => ts[f k]?)
  | [] => .nil
  | k :: l => by
    have ih := ab_pick h f l
    rw [List.filterMap_cons, List.filterMap_cons]
    by_cases c : f k < xs.length
    · obtain ⟨t, ht, at_⟩ := h.get (List.getElem?_eq_getElem c)
      rw [List.getElem?_eq_getElem c, ht]
      exact .cons at_ ih
    · have c2 : ¬ f k < ts.length := by rw [← h.length]; exact c
      rw [List.getElem?_eq_none (by omega), List.getElem?_eq_none (by omega)]
      exact ih
theorem int_all {C : Addr → Prop} {hd : Addr} {H : Hp} : ∀ ns : List Int, AbAll C hd H (ns.map V.int) (ns.map Tg.int)
  | [] => .nil
  | i :: ns => .cons (.int i) (int_all ns)
theorem int_sm (ns : List Int) : ∀ t ∈ ns.map Tg.int, smT t = true := fun t ht => by
  obtain ⟨u, _, rfl⟩ := List.mem_map.mp ht
  rfl
def sp__law_drawn_bar (K : PySem.W.Frag) (C : Addr → Prop) : Sp := fun vs H Q _ => ∃ (hd c vp dp : Addr) (v3 : V) (t3 : Tg) (ws : List Int) (ds : List (List Int)), vs = [.ref hd, .ref vp, .ref dp, v3] ∧ Hand H hd c ∧ SqT K H vp (ws.map V.int) ∧ Dia K H dp ds ∧ ws.length ≤ 30 ∧ ds.length ≤ 7 ∧ Ab C hd H v3 t3 ∧ smT t3 = true ∧
  ∀ (v : V) (u : Tg) H', G (some (hd, c)) H H' → Hand H' hd c → Ab C hd H' v u → smT u = true → Q v H'
theorem ok__law_drawn_bar (T : Txt K mg a) : FnOk P w K mg base CX0 2 a.f__law_drawn_bar a.d__law_drawn_bar P__law_drawn_bar (sp__law_drawn_bar K (Cs a)) := by
  refine T.F__law_drawn_bar.ok sc__law_drawn_bar (fun vs H Q E h => by obtain ⟨hd, c, vp, dp, v3, t3, ws, ds, rfl, _⟩ := h; rfl) (fun cdv A outer s H vs Q E hr h => ?_)
  obtain ⟨hd, c, vp, dp, v3, t3, ws, ds, rfl, hh, hvp, hdia, p30, m7, ha, sm, kk⟩ := h
  have G__law_draw : FnOk P w K mg base CX0 1 a.f__law_draw a.d__law_draw P__law_draw sp__law_draw := ok__law_draw T
  have hdg : ∀ q, some (hd, c) = some q → Hand H q.1 q.2 := fun q e => by cases e; exact hh
  refine ⟨_, (pss_cons (ps_set (i := 4) sc__law_drawn_bar.nd rfl (Or.inr rfl) (pe_call (G__law_draw) (hr.mono (by omega)) rfl T.m__law_draw T.F__law_draw.kp T.b__law_draw .nil pass0 (pa_cons (pv 0) (pa_cons (pe_callB (call_max2 rfl) (by rfl) T.n_max (by decide +kernel) (pa_cons pe_int (pa_cons (pe_callB call_len_seq (by rfl) T.n_len (by decide +kernel) (pa_cons (pv 1) pa_nil)) pa_nil))) pa_nil))))
  (pss_cons (ps_setLc (i := 5) (own := [("_law_x", 10)]) (g := (gName 10))  rfl sc__law_drawn_bar.nd rfl rfl (sw_true rfl rfl rfl (by decide +kernel)) (pi_range1 rfl T.n_range (pa_cons (pe_callB call_len_seq (by rfl) T.n_len (by decide +kernel) (pa_cons (pv 2) pa_nil)) pa_nil)) (blkOk_by (N := N__law_drawn_bar) (sc := defScope s__law_drawn_bar) (by decide +kernel)) (fun _ _ _ _ _ => (pg_name (i := 10) sc__law_drawn_bar.nd rfl (by first | exact Or.inl rfl | exact Or.inr rfl))) (fun _ _ _ _ _ => (pts_one (L2.PW.pt (pw_and (pt_cmpR op_lt (pv 4) (pe_callB (k_call_len_seq K) (by rfl) T.n_len (by decide +kernel) (pa_cons (pv 1) pa_nil)) (nomark _)) (pw_and (pt_cmpR (k_op_in_seq K) (pv 4) (pe_ix (k_ix_tup K) (pv 2) (pv 10) (fun _ _ => rfl)) (by rfl)) (pw_and1 (pt_cmpR op_ne (pv 10) (pe_ix (k_ix_tup K) (pv 1) (pv 4) (fun _ _ => rfl)) (nomark _)))))))) (fun _ _ _ _ _ => (pv 10)))
  (pss_cons (ps_set (i := 6) sc__law_drawn_bar.nd rfl (Or.inl rfl) (pe_callTy call_tupleN (by rfl) T.n_tuple (by decide +kernel) (pa_cons (pe_lc (own := [("_law_x", 10)]) (g := (gName 10)) rfl sc__law_drawn_bar.nd (pi_list (pv 5)) (blkOk_by (N := N__law_drawn_bar) (sc := defScope s__law_drawn_bar) (by decide +kernel)) (fun _ _ _ _ _ => (pg_name (i := 10) sc__law_drawn_bar.nd rfl (by first | exact Or.inl rfl | exact Or.inr rfl))) (fun _ _ _ _ _ => (pts_one (pt_cmpR op_gt (pe_call (G__law_draw) (hr.mono (by omega)) rfl T.m__law_draw T.F__law_draw.kp T.b__law_draw .nil pass0 (pa_cons (pv 0) (pa_cons pe_int pa_nil))) pe_int (nomark _)))) (fun _ _ _ _ _ => (pv 10))) pa_nil)))
  (pss_cons (ps_set (i := 7) sc__law_drawn_bar.nd rfl (Or.inl rfl) (pe_call (G__law_draw) (hr.mono (by omega)) rfl T.m__law_draw T.F__law_draw.kp T.b__law_draw .nil pass0 (pa_cons (pv 0) (pa_cons pe_int pa_nil))))
  (pss_cons (ps_set (i := 8) sc__law_drawn_bar.nd rfl (Or.inl rfl) (pe_lstN (pa_cons (pe_revT (pv 6)) (pa_cons (pe_op op_catR (pv 6) (pe_slice sl_tupR (pv 6) (po_some (pe_un un_neg pe_int)) po_none)) (pa_cons (pe_op op_catR (pv 6) (pe_tupN (pa_cons (pv 3) pa_nil))) (pa_cons (pe_op op_catR (pe_tupN (pa_cons (pv 3) pa_nil)) (pv 6)) (pa_cons (pe_callTy call_listN (by rfl) T.n_list (by decide +kernel) (pa_cons (pv 6) pa_nil)) (pa_cons (pv 3) (pa_cons (pe_tupN (pa_cons pe_bl pa_nil)) pa_nil)))))))))
  (pss_cons (ps_expr (pe_bm PySem.F.plainAttrs_list PySem.F.slot_list_append PySem.F.type_list_append mt_append (pv 8) (pa_cons (pe_tupRgN rfl (by rfl) T.n_tuple (prg_1 (by rfl) T.n_range (pe_callB call_len_seq (by rfl) T.n_len (by decide +kernel) (pa_cons (pv 2) pa_nil))) (mo_rg1 mo_len)) pa_nil)))
  (pss_cons (ps_if (pt_cmpR op_lt (pv 7) pe_int (nomark _))
    (pss_one (ps_ret (pe_tupN (pa_cons (pv 4) (pa_cons (pe_ix ix_list (pv 8) (pv 7) (fun _ _ => rfl)) pa_nil)))))
    pss_nil)
  (pss_cons (ps_set (i := 9) sc__law_drawn_bar.nd rfl (Or.inl rfl) (pe_op op_catLN (pe_op op_repL (pe_lstN (pa_cons (pe_tupN (pa_cons (pv 4) (pa_cons (pv 6) pa_nil))) pa_nil)) pe_int) (pe_lstN (pa_cons (pe_tupN (pa_cons pe_bl (pa_cons (pv 6) pa_nil))) (pa_cons (pe_tupN (pa_cons (pe_callB call_len_seq (by rfl) T.n_len (by decide +kernel) (pa_cons (pv 1) pa_nil)) (pa_cons (pv 6) pa_nil))) (pa_cons (pe_lstN (pa_cons (pv 4) (pa_cons (pv 6) pa_nil))) (pa_cons (pv 3) pa_nil)))))))
  (pss_one (ps_ret (pe_ix ix_list (pv 9) (pe_op op_sub (pv 7) pe_int) (fun _ _ => rfl)))))))))))), ?_⟩
  walk_at "ws"
  refine ⟨vp, _, rfl, .inr hvp, ?_⟩
  rw [List.length_map]
  walk_at "ws"
  refine ⟨_, _, rfl, ?_⟩
  obtain ⟨mx, hmx⟩ : ∃ mx : Int, mx = if ((ws.length : Nat) : Int) > 1 then ((ws.length : Nat) : Int) else 1 := ⟨_, rfl⟩
  rw [← hmx]
  have mx1 : 1 ≤ mx ∧ mx ≤ 30 := by rw [hmx]; split <;> omega
  walk_at "ws"
  refine ⟨hd, c, mx, rfl, hh, by omega, by omega, fun pr H1 r0 r1 g1 hh1 => ?_⟩
  obtain ⟨p, rfl⟩ : ∃ p : Nat, pr = (p : Nat) := ⟨pr.toNat, by omega⟩
  obtain ⟨bd, hbd, lbd, hfd⟩ := hdia.g g1 hdg
  walk_at "ws"
  refine ⟨dp, _, rfl, .inr hbd, ?_⟩
  walk_at "ws"
  rw [List.length_map, lbd]
  refine i_rng1 (by omega) (by omega) ?_
  rw [Int.toNat_natCast]
  intro R hR
  refine lc_it walk_range (fun j H' => G none H1 H' ∧ ∃ es : List Int, H' R = some (.lst (es.map V.int)) ∧ es.length ≤ j) ⟨(G.refl).mut hR (fun _ e => nomatch e), [], upd_same, Nat.le_refl _⟩ (fun _ _ _ _ => trivial) ?_ ?_
  · rintro x _ _ H2 hx ⟨g2, es, h2, le⟩ ⟨rfl, rfl⟩
    show gName 10 (.int (0 + (x : Int))) _ _ _
    rw [Int.zero_add]
    have skip : G none H1 H2 ∧ ∃ es : List Int, H2 R = some (.lst (es.map V.int)) ∧ es.length ≤ x + 1 := ⟨g2, es, h2, by omega⟩
    walk_at "ws"
    refine ⟨rfl, ?_⟩
    walk_at "ws"
    refine ⟨vp, _, rfl, .inr (sqT_t (g1.trans g2.up).tups hvp), ?_⟩
    rw [List.length_map]
    walk_at "ws"
    refine w_ite (fun e => ?_) (fun e => ?_)
    · have e : (p : Int) < (ws.length : Int) := of_decide_eq_true e
      obtain ⟨f, hf⟩ : ∃ f, bd[x]? = some f := ⟨_, List.getElem?_eq_getElem (by omega)⟩
      obtain ⟨d, hd1⟩ : ∃ d, ds[x]? = some d := ⟨_, List.getElem?_eq_getElem (by omega)⟩
      obtain ⟨w0, hw0⟩ : ∃ w0, ws[p]? = some w0 := ⟨_, List.getElem?_eq_getElem (by omega)⟩
      walk_at "ws"
      refine r_ixT (sqT_t g2.tups hbd) (v := .ref f) (at_of (j := x) rfl (by rw [List.getElem?_map, hf]; rfl)) ?_
      refine ⟨f, _, rfl, .inr ((hfd x f d hf hd1).n g2).sq, rfl, flat_ints d, ?_⟩
      rw [inV_ints]
      refine ⟨_, rfl, ?_⟩
      refine w_ite (fun e => ?_) (fun e => ?_)
      · walk_at "ws"
        refine r_ixT (sqT_t (g1.trans g2.up).tups hvp) (v := .int w0) (at_of (j := p) rfl (by rw [List.getElem?_map, hw0]; rfl)) ?_
        walk_at "ws"
        refine w_ite (fun e => ?_) (fun e => ?_)
        · walk_at "ws"
          refine ⟨_, h2, Nat.lt_of_le_of_lt (by rw [List.length_map]; omega : (es.map V.int).length ≤ 1000) (by decide), g2.mut hR (fun _ e => nomatch e), es ++ [(x : Int)], by rw [upd_same, List.map_append]; rfl, by rw [List.length_append, List.length_singleton]; omega⟩
        · exact skip
      · refine w_iteN rfl ?_
        exact skip
    · refine w_iteN rfl ?_
      exact skip
  rintro H2 ⟨g2, es, h2, le⟩
  have hh2 := g2.up.hand (hd, c) rfl hh1
  have nR : R ≠ hd := hh1.ne hR
  have g02 := g1.trans g2.up
  walk_at "ws"
  refine i_list (SqL.of h2) ?_
  intro S hS
  have hdg2 : ∀ q, some (hd, c) = some q → Hand H2 q.1 q.2 := fun q e => by cases e; exact hh2
  have nS : S ≠ hd := hh2.ne hS
  refine lc_it (walk_list (xs := es.map V.int)) (fun j H' => G (some (hd, c)) H2 H' ∧ ∃ fs : List Int, H' S = some (.lst (fs.map V.int)) ∧ fs.length ≤ j) ⟨(G.refl).mut hS hdg2, [], upd_same, Nat.le_refl _⟩ (fun j H' _ g => SqL.of (g.1.keep R _ (fun q e => by cases e; exact nR) h2)) ?_ ?_
  · rintro x v _ H3 hx ⟨g3, fs, h3, lf⟩ ⟨rfl, hv⟩
    rw [List.length_map] at hx
    rw [List.getElem?_map] at hv
    obtain ⟨z, hz, rfl⟩ := Option.map_eq_some_iff.mp hv
    have hh3 := g3.hand (hd, c) rfl hh2
    walk_at "ws"
    refine ⟨rfl, ?_⟩
    walk_at "ws"
    refine ⟨hd, c, 3, rfl, hh3, by decide, by decide, fun r H4 r0 r1 g4 hh4 => ?_⟩
    have h4 := g4.keep S _ (fun q e => by cases e; exact nS) h3
    walk_at "ws"
    refine w_ite (fun e => ?_) (fun e => ?_)
    · walk_at "ws"
      refine ⟨_, h4, Nat.lt_of_le_of_lt (by rw [List.length_map]; omega : (fs.map V.int).length ≤ 1000) (by decide), (g3.trans g4).mut hS hdg2, fs ++ [z], by rw [upd_same, List.map_append]; rfl, by rw [List.length_append, List.length_singleton]; omega⟩
    · exact ⟨g3.trans g4, fs, h4, by omega⟩
  rintro H3 ⟨g3, fs, h3, lf⟩
  rw [List.length_map] at lf
  have hh3 := g3.hand (hd, c) rfl hh2
  have g03 := g02.trans g3
  walk_at "ws"
  refine ⟨S, _, rfl, .inl ⟨SqL.of h3, fun lt H4 hlt g4 h4 => ?_⟩⟩
  have hh4 := (g4 none).up.hand (hd, c) rfl hh3
  have g04 := g03.trans (g4 none).up
  walk_at "ws"
  refine ⟨hd, c, 16, rfl, hh4, by decide, by decide, fun kd H5 k0 k1 g5 hh5 => ?_⟩
  have g05 := g04.trans g5
  have r5 : Rd H5 lt (.tup (fs.map V.int)) := g5.tups _ _ (.inl h4)
  have ha5 := ha.g g05 OH.s
  have hvp5 := sqT_t g05.tups hvp
  have hbd5 := sqT_t (((g2.up.trans g3).trans (g4 none).up).trans g5).tups hbd
  clear h2 h3 h4 g4 g3 g2 hh2 hh3 hh4 hdg2
  walk_at "ws"
  refine w_revT ?_
  walk_at "ws"
  refine ⟨lt, _, rfl, .inl r5, fun p6 H6 hp6 g6 h6 => ?_⟩
  have c0 := cut_le (fs.map V.int) (some (-1)) none
  rw [List.length_map] at c0
  walk_at "ws"
  refine ⟨lt, _, rfl, (g6 none).tups _ _ r5, fun p7 H7 g7 r7 => ?_⟩
  walk_at "ws"
  have g67 := (g6 none).trans (g7 none)
  refine ⟨lt, p7, _, _, rfl, rfl, g67.tups _ _ r5, r7, by rw [List.length_map]; omega, fun p8 H8 g8 r8 => ?_⟩
  walk_at "ws"
  have g68 := g67.trans (g8 none)
  refine ⟨sz (by simp), fun p9 H9 hp9 g9 h9 => ?_⟩
  walk_at "ws"
  have g69 := g68.trans (g9 none)
  refine ⟨lt, p9, _, _, rfl, rfl, g69.tups _ _ r5, .inl h9, by rw [List.length_map, List.length_singleton]; omega, fun pa Ha ga ra => ?_⟩
  walk_at "ws"
  have g6a := g69.trans (ga none)
  refine ⟨sz (by simp), fun pb Hb hpb gb hb => ?_⟩
  walk_at "ws"
  have g6b := g6a.trans (gb none)
  refine ⟨pb, lt, _, _, rfl, rfl, .inl hb, g6b.tups _ _ r5, by rw [List.length_map, List.length_singleton]; omega, fun pc Hc gc rc => ?_⟩
  walk_at "ws"
  have g6c := g6b.trans (gc none)
  refine ⟨lt, _, rfl, .inr (.inl (g6c.tups _ _ r5)), fun ld Hd hld gd hd1 => ?_⟩
  walk_at "ws"
  have g6d := g6c.trans (gd none)
  refine ⟨sz (by simp), fun pe He hpe ge he => ?_⟩
  walk_at "ws"
  have g6e := g6d.trans (ge none)
  refine ⟨sz (by simp), fun lf_ Hf hlf gf hf => ?_⟩
  have g6f := g6e.trans (gf none)
  have hhc := g6c.up.hand (hd, c) rfl hh5
  have nld : ld ≠ hd := hhc.ne hld
  have nlf : lf_ ≠ hd := (g6e.up.hand (hd, c) rfl hh5).ne hlf
  have qef := (ge none).trans (gf none)
  have qdf := (gd none).trans qef
  have qcf := (gc none).trans qdf
  have qaf := ((ga none).trans (gb none)).trans qcf
  have al : ∃ U, AbAll (Cs a) hd Hf [.ref p6, .ref p8, .ref pa, .ref pc, .ref ld, v3, .ref pe] U ∧ ∀ t ∈ U, smT t = true := by
    have A := int_all (C := Cs a) (hd := hd) (H := Hf) fs
    obtain ⟨u1, a1, b1, l1⟩ := ab_cut A (some (-1)) none
    have P := ab_pick A (fun (k : Nat) => ((((fs.map V.int).length : Int) - 1) + (k : Int) * (-1)).toNat) (List.range (fs.map V.int).length)
    have ha_ := ha5.n g6f
    refine ⟨_, .cons (.tup (.inl ((((g7 none).trans (g8 none)).trans ((g9 none).trans qaf)).all _ _ h6)) P) (.cons (.tup (((g9 none).trans qaf).tups _ _ r8) (A.app a1)) (.cons (.tup ((((gb none).trans qcf)).tups _ _ ra) (A.app (.cons ha_ .nil))) (.cons (.tup (qdf.tups _ _ rc) (AbAll.app (.cons ha_ .nil) A)) (.cons (ab_lst nld (qef.all _ _ hd1)) (.cons ha_ (.cons (.tup (.inl ((gf none).all _ _ he)) (.cons (.bl _) .nil)) .nil)))))), fun t ht => ?_⟩
    simp only [List.mem_cons, List.not_mem_nil, or_false] at ht
    rw [List.length_map] at l1
    have I := int_sm fs
    rcases ht with rfl | rfl | rfl | rfl | rfl | rfl | rfl
    · refine smT_of ?_ fun t ht => ?_
      · refine Nat.le_trans (List.length_filterMap_le _ _) ?_
        rw [List.length_range, List.length_map]; omega
      · obtain ⟨k, _, e⟩ := List.mem_filterMap.mp ht
        exact I t (List.mem_of_getElem? e)
    · exact smT_of (by rw [List.length_append, List.length_map]; omega) (sm_app I fun t h => I t (b1 t h))
    · exact smT_of (by rw [List.length_append, List.length_map, List.length_singleton]; omega) (sm_app I (sm_one sm))
    · exact smT_of (by rw [List.length_append, List.length_map, List.length_singleton]; omega) (sm_app (sm_one sm) I)
    · rfl
    · exact sm
    · rfl
  obtain ⟨U, al, smU⟩ := al
  obtain ⟨L, eL⟩ : ∃ L : List V, L = [.ref p6, .ref p8, .ref pa, .ref pc, .ref ld, v3, .ref pe] := ⟨_, rfl⟩
  rw [← eL] at al hf
  have lL : L.length = 7 := by rw [eL]; rfl
  have rF := g6f.tups _ _ r5
  have haF := ha5.n g6f
  have hvpF := sqT_t g6f.tups hvp5
  have hbdF := sqT_t g6f.tups hbd5
  have hhF := g6f.up.hand (hd, c) rfl hh5
  have g0F := g05.trans g6f.up
  have hlf0 : H lf_ = none := by
    cases e : H lf_ with
    | none => rfl
    | some u =>
      have := (g05.trans g6e.up).keep lf_ u (fun q z => by cases z; exact nlf) e
      rw [hlf] at this
      cases this
  clear eL qaf qcf qdf qef hhc h6 r7 r8 h9 ra hb rc hd1 he g6 g7 g8 g9 ga gb gc gd ge gf g67 g68 g69 g6a g6b g6c g6d g6e g6f
  walk_at "ws"
  refine i_BM hf ?_
  walk_at "ws"
  refine w_tupRg ?_
  walk_at "ws"
  refine w_rg1 ?_
  walk_at "ws"
  refine ⟨dp, _, rfl, .inr hbdF, ?_⟩
  rw [List.length_map, lbd]
  walk_at "ws"
  refine ⟨⟨by omega, by omega⟩, fun q Hg hq gg hg => ?_⟩
  walk_at "ws"
  have hgL := (gg none).all _ _ hf
  refine r_app hgL (by rw [lL]; decide) ?_
  walk_at "ws"
  rw [rg_upto] at hg
  have alg := (al.n (gg none)).app (.cons (.tup (.inl hg) (int_all (upto ds.length))) .nil)
  have smg := sm_app smU (sm_one (smT_of (by rw [List.length_map]; unfold upto; rw [List.length_map, List.length_range]; omega) (int_sm (upto ds.length))))
  have hhg := (gg none).up.hand (hd, c) rfl hhF
  obtain ⟨Hh, eHh⟩ : ∃ Hh, Hh = upd Hg lf_ (.lst (L ++ [.ref q])) := ⟨_, rfl⟩
  have tS : Ts Hg Hh := by rw [eHh]; exact Ts.updl hgL
  have alh : AbAll (Cs a) hd Hh (L ++ [.ref q]) (U ++ [.tup ((upto ds.length).map Tg.int)]) := by rw [eHh]; exact al_put hgL alg
  have hhL : Hh lf_ = some (.lst (L ++ [.ref q])) := by rw [eHh]; exact upd_same
  have gH : G (some (hd, c)) H Hh := by rw [eHh]; exact (g0F.trans (gg none).up).mut hlf0 hdg
  rw [← eHh]
  have rH := tS _ _ ((gg none).tups _ _ rF)
  have haH := ha.g gH OH.s
  have hhH := gH.hand (hd, c) rfl hh
  have hvpH := sqT_t gH.tups hvp
  have smh : ∀ t ∈ U ++ [.tup ((upto ds.length).map Tg.int)], smT t = true := smg
  have lL8 : (L ++ [V.ref q]).length = 8 := by rw [List.length_append, lL]; rfl
  clear eHh tS alg smg hgL hg gg hhg al smU
  refine w_ite (fun e => ?_) (fun e => ?_)
  · have e : kd < 8 := of_decide_eq_true e
    obtain ⟨v', t', e', m', hv'⟩ := at_ab alh k0 (by rw [lL8]; omega)
    walk_at "ws"
    refine r_ixL (SqL.of hhL) e' ?_
    walk_at "ws"
    refine ⟨sz (by simp), fun pz Hz hpz gz hz => ?_⟩
    refine kk _ (.tup [.int (p : Nat), t']) Hz (gH.trans (gz none).up) ((gz none).up.hand (hd, c) rfl hhH) (.tup (.inl hz) (.cons (.int _) (.cons (hv'.n (gz none)) .nil))) (smT_of (by simp) fun t ht => ?_)
    simp only [List.mem_cons, List.not_mem_nil, or_false] at ht
    rcases ht with rfl | rfl
    · rfl
    · exact smh _ m'
  · have e : ¬ kd < 8 := of_decide_eq_false e
    walk_at "ws"
    refine ⟨sz (by simp), fun p1 Ha hp1 ga h1 => ?_⟩
    walk_at "ws"
    refine ⟨sz (by simp), fun l2 Hb hl2 gb h2 => ?_⟩
    walk_at "ws"
    refine ⟨l2, 4, _, rfl, rfl, h2, by decide, by decide, by simp, fun l3 Hc hl3 gc h3 => ?_⟩
    walk_at "ws"
    refine ⟨sz (by simp), fun p4 Hd hp4 gd h4 => ?_⟩
    walk_at "ws"
    have gHd := (((ga none).trans (gb none)).trans (gc none)).trans (gd none)
    refine ⟨vp, _, rfl, .inr (sqT_t gHd.tups hvpH), ?_⟩
    rw [List.length_map]
    walk_at "ws"
    refine ⟨sz (by simp), fun p5 He2 hp5 ge2 h5 => ?_⟩
    walk_at "ws"
    refine ⟨sz (by simp), fun l6 Hf2 hl6 gf2 h6 => ?_⟩
    walk_at "ws"
    refine ⟨sz (by simp), fun l7 Hg2 hl7 gg2 h7 => ?_⟩
    walk_at "ws"
    have q67 := (gf2 none).trans (gg2 none)
    have q57 := (ge2 none).trans q67
    have q47 := (gd none).trans q57
    have q37 := (gc none).trans q47
    have q27 := (gb none).trans q37
    have q17 := (ga none).trans q27
    have hhe := (gHd.trans (ge2 none)).up.hand (hd, c) rfl hhH
    have n6 : l6 ≠ hd := hhe.ne hl6
    refine ⟨l3, l7, _, _, rfl, rfl, q47.all _ _ h3, h7, by simp, fun l8 Hi hl8 gi hi => ?_⟩
    have gHi := q17.trans (gi none)
    have nl8 : l8 ≠ hd := (q17.up.hand (hd, c) rfl hhH).ne hl8
    have hhI := gHi.up.hand (hd, c) rfl hhH
    walk_at "ws"
    have A := int_all (C := Cs a) (hd := hd) (H := Hi) fs
    have aLot : Ab (Cs a) hd Hi (.ref lt) (.tup (fs.map Tg.int)) := .tup (gHi.tups _ _ rH) A
    have sLot : smT (.tup (fs.map Tg.int)) = true := smT_of (by rw [List.length_map]; omega) (int_sm fs)
    have aP : Ab (Cs a) hd Hi (.ref p1) (.tup [.int (p : Nat), .tup (fs.map Tg.int)]) := .tup (.inl ((q27.trans (gi none)).all _ _ h1)) (.cons (.int _) (.cons aLot .nil))
    have sPair : ∀ i : Tg, smT i = true → smT (.tup [i, .tup (fs.map Tg.int)]) = true := fun i si => smT_of (by simp) fun t ht => by
      simp only [List.mem_cons, List.not_mem_nil, or_false] at ht
      rcases ht with rfl | rfl
      · exact si
      · exact sLot
    have alI : AbAll (Cs a) hd Hi ([.ref p1, .ref p1, .ref p1, .ref p1] ++ [.ref p4, .ref p5, .ref l6, v3]) ([.tup [.int (p : Nat), .tup (fs.map Tg.int)], .tup [.int (p : Nat), .tup (fs.map Tg.int)], .tup [.int (p : Nat), .tup (fs.map Tg.int)], .tup [.int (p : Nat), .tup (fs.map Tg.int)]] ++ [.tup [.bl true, .tup (fs.map Tg.int)], .tup [.int (ws.length : Nat), .tup (fs.map Tg.int)], .oth, t3]) :=
      .cons aP (.cons aP (.cons aP (.cons aP (.cons (.tup (.inl ((q57.trans (gi none)).all _ _ h4)) (.cons (.bl _) (.cons aLot .nil))) (.cons (.tup (.inl ((q67.trans (gi none)).all _ _ h5)) (.cons (.int _) (.cons aLot .nil))) (.cons (ab_lst n6 (((gg2 none).trans (gi none)).all _ _ h6)) (.cons (haH.n gHi) .nil)))))))
    obtain ⟨v', t', e', m', hv'⟩ := at_ab alI (r := kd - 8) (by omega) (by simp; omega)
    refine r_ixL (SqL.of hi) e' ?_
    refine kk v' t' Hi (gH.trans gHi.up) hhI hv' ?_
    simp only [List.mem_append, List.mem_cons, List.not_mem_nil, or_false] at m'
    rcases m' with (rfl | rfl | rfl | rfl) | rfl | rfl | rfl | rfl
    · exact sPair _ rfl
    · exact sPair _ rfl
    · exact sPair _ rfl
    · exact sPair _ rfl
    · exact sPair _ rfl
    · exact sPair _ rfl
    · rfl
    · exact sm

end
end Mine
/-! ## K71 -/


namespace Mine
section
variable {P : Program} {w : World} {K : PySem.W.Frag} {mg : Str → Option Value} {base : Heap} {a : Ads}

/-! ### the law -/
theorem w_c2 {b : Bool} {x y : Int} {σ : L2.St} {H : Hp} {QQ : VK} (h : ∀ mm : Int, (mm = x ∨ mm = y) → QQ (.int mm) H) : if b = true then tC (.int x) σ H QQ else tC (.int y) σ H QQ := by
  cases b
  · exact h _ (.inr rfl)
  · exact h _ (.inl rfl)
theorem RecAt.g {C x hd c : Addr} {ws : List Int} {ds : List (List Int)} {H H' : Hp} (h : RecAt K C H x ws ds) (g : G (some (hd, c)) H H') (hh : Hand H hd c) : RecAt K C H' x ws ds := by
  obtain ⟨dx, wp, dp, h1, h2, h3⟩ := h
  refine ⟨dx, wp, dp, g.keep x _ (fun q e => ?_) h1, sqT_t g.tups h2, h3.g g fun q e => by cases e; exact hh⟩
  cases e
  intro z
  obtain ⟨_, _, i, b, m, k, e2, _⟩ := hh
  have z : x = hd := z
  rw [← z, h1] at e2
  cases e2
theorem TrsV.g {H H' : Hp} {t : Addr} {k n : Nat} (h : TrsV H t k n) (ts : Ts H H') : TrsV H' t k n := by
  obtain ⟨qs, uss, h1, h2⟩ := h
  exact ⟨qs, uss, ts _ _ h1, h2.t ts⟩
theorem trs_ab {C : Addr → Prop} {hd t : Addr} {H : Hp} {k n : Nat} (h : TrsV H t k n) (hk : k ≤ 60) (hn : n ≤ 60) : ∃ u, Ab C hd H (.ref t) u ∧ smT u = true := by
  obtain ⟨qs, uss, h1, h2⟩ := h
  exact ⟨_, .tup h1 (tsl_all h2), smT_of (by rw [List.length_map, h2.2.1]; exact hk) (tsl_sm h2 hn)⟩
/-- what a told tree holds, as it is told -/
def opt (kvs : List (Key × V)) (n : Nat) : List (Option Int) := (List.range n).map fun (x : Nat) => match valV kvs (Sum.inl (x : Int)) with | some (.int h) => some h | _ => none
theorem opt_tv {us : List (Int × Int)} {y : Int} {kvs : List (Key × V)} {ks : List Int} (t : TreeK us y kvs ks) (n : Nat) : trV kvs n = (opt kvs n).map tv := by
  unfold trV opt
  rw [List.map_map]
  refine List.map_congr_left fun x _ => ?_
  show _ = tv (match valV kvs (Sum.inl (x : Int)) with | some (.int h) => some h | _ => none)
  rcases t.cases_ (x : Int) with ⟨_, e⟩ | ⟨_, _, h, e, _⟩
  · rw [e]
    cases c : valV kvs (Sum.inl (x : Int)) with
    | none => rfl
    | some v =>
      rw [c] at e
      have e : v = .non := e
      subst e
      rfl
  · rw [e]; rfl
theorem told_v {H : Hp} {t : Addr} {qs : List Addr} {W : List (Int × Int)} {ws : List Int} {ds : List (List Int)} (ht : Rd H t (.tup (qs.map V.ref))) (lq : qs.length = ws.length)
    (h : ∀ (p : Nat) (q : Addr), qs[p]? = some q → ∃ (w0 : Int) (kvs : List (Key × V)) (ks : List Int), ws[p]? = some w0 ∧ TreeK (growL W ds p) w0 kvs ks ∧ ks.Nodup ∧ (∀ z, z ∈ ks ↔ Reach (growL W ds p) w0 z) ∧ kvs = wfK (growL W ds p) w0 ∧ Rd H q (.tup (trV kvs ds.length))) : TrsV H t ws.length ds.length := by
  refine ⟨qs, (List.range qs.length).map fun (p : Nat) => opt (wfK (growL W ds (p : Nat)) (ws.getD p 0)) ds.length, ht, lq, by rw [List.length_map, List.length_range, lq], fun us hu => ?_, fun j q us e1 e2 => ?_⟩
  · obtain ⟨p, _, rfl⟩ := List.mem_map.mp hu
    unfold opt
    rw [List.length_map, List.length_range]
  · obtain ⟨w0, kvs, ks, q1, q2, _, _, q5, q6⟩ := h j q e1
    have l := (List.getElem?_eq_some_iff.mp e1).1
    rw [List.getElem?_map, List.getElem?_range l] at e2
    cases e2
    show Rd H q (.tup (List.map tv (opt (wfK (growL W ds (j : Nat)) (ws.getD j 0)) ds.length)))
    rw [List.getD_eq_getElem?_getD, q1]
    show Rd H q (.tup ((opt (wfK (growL W ds j) w0) ds.length).map tv))
    rw [← q5, ← opt_tv q2]
    exact q6
def spLaw (K : PySem.W.Frag) : Sp := fun vs H Q _ => ∃ (s : Addr) (ns : List Int), vs = [.ref s] ∧ SqL K H s (ns.map V.int) ∧ ns.length ≤ 63 ∧ ∀ H', Q (.bl true) H'
theorem ok_law (T : Txt K mg a) : FnOk P w K mg base CX0 10 a.f_law a.d_law P_law (spLaw K) := by
  refine T.F_law.ok sc_law (fun vs H Q E h => by obtain ⟨s, ns, rfl, _⟩ := h; rfl) (fun cdv A outer s0 H vs Q E hr h => ?_)
  obtain ⟨s, ns, rfl, hs, hl, k⟩ := h
  have G__law_hand : FnOk P w K mg base CX0 1 a.f__law_hand a.d__law_hand P__law_hand (sp__law_hand K) := ok__law_hand T
  have G__law_draw : FnOk P w K mg base CX0 1 a.f__law_draw a.d__law_draw P__law_draw sp__law_draw := ok__law_draw T
  have G__law_flag : FnOk P w K mg base CX0 1 a.f__law_flag a.d__law_flag P__law_flag sp__law_flag := ok__law_flag T
  have G__law_parts : FnOk P w K mg base CX0 3 a.f__law_parts a.d__law_parts P__law_parts (sp__law_parts K) := ok__law_parts T
  have G_Web_init : FnOk P w K mg base CX0 7 a.f_Web_init a.d_Web_init P_Web_init (sp_Web_init K a.c_Web) := ok_Web_init T
  have G_Record_init : FnOk P w K mg base CX0 7 a.f_Record_init a.d_Record_init P_Record_init (sp_Record_init K a.c_Record) := ok_Record_init T
  have G_trees : FnOk P w K mg base CX0 7 a.f_trees a.d_trees P_trees (sp_trees K a.c_Web a.c_Record) := ok_trees T
  have G__law_drawn_trees : FnOk P w K mg base CX0 2 a.f__law_drawn_trees a.d__law_drawn_trees P__law_drawn_trees (sp__law_drawn_trees K) := ok__law_drawn_trees T
  have G__law_bent_trees : FnOk P w K mg base CX0 2 a.f__law_bent_trees a.d__law_bent_trees P__law_bent_trees (sp__law_bent_trees (Cs a)) := ok__law_bent_trees T
  have G__law_odd : FnOk P w K mg base CX0 9 a.f__law_odd a.d__law_odd P__law_odd (sp__law_odd (Cs a)) := ok__law_odd T
  have G__law_drawn_bar : FnOk P w K mg base CX0 2 a.f__law_drawn_bar a.d__law_drawn_bar P__law_drawn_bar (sp__law_drawn_bar K (Cs a)) := ok__law_drawn_bar T
  have G__law_is_tree : FnOk P w K mg base CX0 2 a.f__law_is_tree a.d__law_is_tree P__law_is_tree (sa__law_is_tree K (Cs a)) := oka__law_is_tree T
  have G_is_trees : FnOk P w K mg base CX0 5 a.f_is_trees a.d_is_trees P_is_trees (sa_is_trees K a.c_Web a.c_Record (Cs a)) := oka_is_trees T
  have G__law_bars : FnOk P w K mg base CX0 2 a.f__law_bars a.d__law_bars P__law_bars (sa__law_bars K (Cs a)) := oka__law_bars T
  have G_is_bar : FnOk P w K mg base CX0 6 a.f_is_bar a.d_is_bar P_is_bar (sa_is_bar K a.c_Web a.c_Record (Cs a)) := oka_is_bar T
  refine ⟨_, (pss_cons (ps_set (i := 1) sc_law.nd rfl (Or.inl rfl) (pe_call (G__law_hand) (hr.mono (by omega)) rfl T.m__law_hand T.F__law_hand.kp T.b__law_hand .nil pass0 (pa_cons (pv 0) pa_nil)))
  (pss_cons (ps_for PassesOwn.never rfl (pi_range1 rfl T.n_range (pa_cons pe_int pa_nil)) (pg_name (i := 2) sc_law.nd rfl (Or.inl rfl))
    (pss_cons (ps_asg (pe_call (G__law_parts) (hr.mono (by omega)) rfl T.m__law_parts T.F__law_parts.kp T.b__law_parts .nil pass0 (pa_cons (pv 1) (pa_cons (pe_ifExp (pt_cmpR op_eq (pv 2) pe_int (nomark _)) pe_int pe_int) (pa_cons pe_int pa_nil)))) (pg_tup rfl (pgs_cons (pg_name (i := 3) sc_law.nd rfl (Or.inl rfl)) (pgs_cons (pg_name (i := 4) sc_law.nd rfl (Or.inr rfl)) (pgs_cons (pg_name (i := 5) sc_law.nd rfl (Or.inr rfl)) (pgs_cons (pg_name (i := 6) sc_law.nd rfl (Or.inr rfl)) pgs_nil))))))
  (pss_cons (ps_set (i := 7) sc_law.nd rfl (Or.inl rfl) (pe_make T.K_Web (G_Web_init) (hr.mono (by omega)) rfl T.m_Web T.b_Web_init .nil pass0 (pa_cons (pv 3) (pa_cons (pv 4) pa_nil))))
  (pss_cons (ps_set (i := 8) sc_law.nd rfl (Or.inl rfl) (pe_make T.K_Record (G_Record_init) (hr.mono (by omega)) rfl T.m_Record T.b_Record_init .nil pass0 (pa_cons (pv 5) (pa_cons (pv 6) pa_nil))))
  (pss_cons (ps_set (i := 9) sc_law.nd rfl (Or.inl rfl) (pe_call (G_trees) (hr.mono (by omega)) rfl T.m_trees T.F_trees.kp T.b_trees .nil pass0 (pa_cons (pv 7) (pa_cons (pv 8) pa_nil))))
  (pss_one (ps_for PassesOwn.never rfl (pi_range1 rfl T.n_range (pa_cons pe_int pa_nil)) (pg_name (i := 10) sc_law.nd rfl (Or.inl rfl))
    (pss_cons (ps_set (i := 11) sc_law.nd rfl (Or.inl rfl) (pe_call (G__law_drawn_trees) (hr.mono (by omega)) rfl T.m__law_drawn_trees T.F__law_drawn_trees.kp T.b__law_drawn_trees .nil pass0 (pa_cons (pv 1) (pa_cons (pv 4) (pa_cons (pv 5) (pa_cons (pv 6) pa_nil))))))
  (pss_cons (ps_if (L2.PW.pt (pw_and (pt_cmp (pc_notN (pv 9))) (pw_and1 (pt_cmpR op_eq (pe_call (G__law_draw) (hr.mono (by omega)) rfl T.m__law_draw T.F__law_draw.kp T.b__law_draw .nil pass0 (pa_cons (pv 1) (pa_cons pe_int pa_nil))) pe_int (nomark _)))))
    (pss_one (ps_set (i := 11) sc_law.nd rfl (Or.inl rfl) (pv 9)))
    pss_nil)
  (pss_cons (ps_if (pt_cmpR op_eq (pe_call (G__law_draw) (hr.mono (by omega)) rfl T.m__law_draw T.F__law_draw.kp T.b__law_draw .nil pass0 (pa_cons (pv 1) (pa_cons pe_int pa_nil))) pe_int (nomark _))
    (pss_one (ps_set (i := 11) sc_law.nd rfl (Or.inl rfl) (pe_call (G__law_bent_trees) (hr.mono (by omega)) rfl T.m__law_bent_trees T.F__law_bent_trees.kp T.b__law_bent_trees .nil pass0 (pa_cons (pv 1) (pa_cons (pv 11) (pa_cons (pe_call (G__law_odd) (hr.mono (by omega)) rfl T.m__law_odd T.F__law_odd.kp T.b__law_odd .nil pass0 (pa_cons (pv 1) (pa_cons (pv 7) (pa_cons (pv 8) pa_nil)))) pa_nil))))))
    pss_nil)
  (pss_cons (ps_set (i := 12) sc_law.nd rfl (Or.inl rfl) (pe_and (pe_callB call_isi (by rfl) T.n_isinstance (by decide +kernel) (pa_cons (pv 11) (pa_cons (pe_bltn (v := .ty "tuple") (u := .type "tuple") rfl T.n_tuple (by decide +kernel) rfl) pa_nil))) (pe_one (pe_cmpR op_eq (pe_callB call_len_seq (by rfl) T.n_len (by decide +kernel) (pa_cons (pv 11) pa_nil)) (pe_callB call_len_seq (by rfl) T.n_len (by decide +kernel) (pa_cons (pv 5) pa_nil)) (nomark _)))))
  (pss_cons (ps_set (i := 12) sc_law.nd rfl (Or.inl rfl) (pe_and (pv 12) (pe_one (pe_callB (cr_all rfl) (by rfl) T.n_all (by decide +kernel) (pa_cons (pe_lc (own := [("_law_put", 13), ("_law_tree", 14)]) (g := (gTup K 2 (gCons (gName 13) (gCons (gName 14) gNil)))) (tt := tYes) rfl sc_law.nd (pi_enumT (by rfl) T.n_enumerate (pa_cons (pv 11) pa_nil)) (blkOk_by (N := N_law) (sc := defScope s_law) (by decide +kernel)) (fun _ _ _ _ _ => (pg_tup rfl (pgs_cons (pg_name (i := 13) sc_law.nd rfl (by first | exact Or.inl rfl | exact Or.inr rfl)) (pgs_cons (pg_name (i := 14) sc_law.nd rfl (by first | exact Or.inl rfl | exact Or.inr rfl)) pgs_nil)))) (fun _ _ _ _ _ => pts_nil) (fun _ _ _ _ _ => (pe_call (G__law_is_tree) (hr.mono (by omega)) rfl T.m__law_is_tree T.F__law_is_tree.kp T.b__law_is_tree .nil pass0 (pa_cons (pv 4) (pa_cons (pv 5) (pa_cons (pv 6) (pa_cons (pv 13) (pa_cons (pv 14) pa_nil)))))))) pa_nil)))))
  (pss_cons (ps_if (pt_not (pt_val (pe_call (G__law_flag) (hr.mono (by omega)) rfl T.m__law_flag T.F__law_flag.kp T.b__law_flag .nil pass0 (pa_cons (pe_call (G_is_trees) (hr.mono (by omega)) rfl T.m_is_trees T.F_is_trees.kp T.b_is_trees .nil pass0 (pa_cons (pv 7) (pa_cons (pv 8) (pa_cons (pv 11) pa_nil)))) (pa_cons (pv 12) pa_nil)))))
    (pss_one (ps_ret pe_bl))
    pss_nil)
  (pss_cons (ps_set (i := 11) sc_law.nd rfl (Or.inl rfl) (pe_call (G__law_drawn_bar) (hr.mono (by omega)) rfl T.m__law_drawn_bar T.F__law_drawn_bar.kp T.b__law_drawn_bar .nil pass0 (pa_cons (pv 1) (pa_cons (pv 5) (pa_cons (pv 6) (pa_cons (pe_call (G__law_odd) (hr.mono (by omega)) rfl T.m__law_odd T.F__law_odd.kp T.b__law_odd .nil pass0 (pa_cons (pv 1) (pa_cons (pv 7) (pa_cons (pv 8) pa_nil)))) pa_nil))))))
  (pss_one (ps_if (pt_not (pt_val (pe_call (G__law_flag) (hr.mono (by omega)) rfl T.m__law_flag T.F__law_flag.kp T.b__law_flag .nil pass0 (pa_cons (pe_call (G_is_bar) (hr.mono (by omega)) rfl T.m_is_bar T.F_is_bar.kp T.b_is_bar .nil pass0 (pa_cons (pv 7) (pa_cons (pv 8) (pa_cons (pv 11) pa_nil)))) (pa_cons (pe_call (G__law_bars) (hr.mono (by omega)) rfl T.m__law_bars T.F__law_bars.kp T.b__law_bars .nil pass0 (pa_cons (pv 4) (pa_cons (pv 5) (pa_cons (pv 6) (pa_cons (pv 11) pa_nil))))) pa_nil)))))
    (pss_one (ps_ret pe_bl))
    pss_nil))))))))))))))))
  (pss_one (ps_ret pe_bl)))), ?_⟩
  walk_at "ws"
  refine ⟨s, ns, rfl, hs, hl, fun hd c H1 g1 hh1 => ?_⟩
  walk_at "ws"
  refine i_rng1 (by decide) (by decide) ?_
  refine for_it walk_range (fun i σ H' => Hand H' hd c ∧ ∃ u2 u3 u4 u5 u6 u7 u8 u9 u10 u11 u12, σ = [some (.ref s), some (.ref hd), u2, u3, u4, u5, u6, u7, u8, u9, u10, u11, u12, none, none]) ⟨hh1, _, _, _, _, _, _, _, _, _, _, _, rfl⟩ (fun _ _ _ _ _ => trivial) ?_ ?_
  · rintro turn _ σ _ H2 ht ⟨hh2, u2, u3, u4, u5, u6, u7, u8, u9, u10, u11, u12, rfl⟩ ⟨rfl, rfl⟩
    walk_at "ws"
    refine w_c2 fun mm hmm => ?_
    walk_at "ws"
    refine ⟨hd, c, mm, 6, rfl, hh2, by omega, by omega, by decide, by decide, fun p0 wa vp dp m ws ds H3 g3 hh3 hp hv hdia ld m1 m7 rec lw bs W hwa tup web => ?_⟩
    refine ⟨p0, _, rfl, SqT.of hp, rfl, ?_⟩
    refine ⟨_, _, rfl, ?_⟩
    walk_at "ws"
    refine ⟨_, _, rfl, ?_⟩
    walk_at "ws"
    refine ⟨_, _, rfl, ?_⟩
    walk_at "ws"
    refine ⟨_, _, rfl, ?_⟩
    walk_at "ws"
    refine ⟨rfl, ?_⟩
    walk_at "ws"
    refine web_new (ws := W) (.tup hwa (tupAll_dp (p := wa) tup)) web fun x H4 hx g4 hxw => ?_
    have hv4 := sqT_t (g4 none).tups hv
    walk_at "ws"
    refine rec_new hv4 (hdia.n (g4 none)) rec fun r H5 hr5 g5 hrr => ?_
    have g35 := (g4 none).trans (g5 none)
    have hwb5 := hxw.n (g5 none)
    have p30 := rec.p30
    have lw6 : ws.length ≤ 6 := by have := lw; omega
    have hh5 : Hand H5 hd c := g35.up.hand (hd, c) rfl hh3
    walk_at "wn"
    try dsimp only
    refine w_seqM (fun σ H' => ∃ (v3 : Option V) (vf : V), σ = [some (.ref s), some (.ref hd), some (.int (0 + (turn : Int))), v3, some (.ref wa), some (.ref vp), some (.ref dp), some (.ref x), some (.ref r), some vf, u10, u11, u12, none, none] ∧ G none H5 H' ∧ (vf = .non ∨ ∃ t, vf = .ref t ∧ TrsV H' t ws.length ds.length)) (fun N kN => ?_) ?_
    · walk_at "ws"
      refine ⟨x, r, m, W, ws, ds, rfl, hwb5, web, hrr, rec, ld, fun F t qs H6 g6 ht6 lq trs => ?_, fun F H6 g6 => ?_⟩
      · have hf := told_v ht6 lq trs
        walk_at "ws"
        exact kN _ _ ⟨_, _, rfl, g6, .inr ⟨t, rfl, hf⟩⟩
      · walk_at "ws"
        exact kN _ _ ⟨_, _, rfl, g6, .inl rfl⟩
    rintro σ H6 ⟨v3, vf, rfl, g6, hf⟩
    have g36 := g35.trans g6
    have hh6 := g6.up.hand (hd, c) rfl hh5
    have hwb6 := hwb5.n g6
    have hrr6 := hrr.n g6
    have hwa6 := sqT_t g36.tups hwa
    have tup6 := tup.g g36 (fun _ e => nomatch e)
    have hv6 := sqT_t g36.tups hv
    have hdia6 := hdia.n g36
    have hdg6 : ∀ q, some (hd, c) = some q → Hand H6 q.1 q.2 := fun q e => by cases e; exact hh6
    clear g3 g4 g35 g36 g6 hp hv hdia hwa tup hxw hv4 hrr hwb5
    walk_at "ws"
    refine i_rng1 (by decide) (by decide) ?_
    refine for_it walk_range (fun i σ H' => Hand H' hd c ∧ G (some (hd, c)) H6 H' ∧ ∃ v10 v11 v12, σ = [some (.ref s), some (.ref hd), some (.int (0 + (turn : Int))), v3, some (.ref wa), some (.ref vp), some (.ref dp), some (.ref x), some (.ref r), some vf, v10, v11, v12, none, none]) ⟨hh6, G.refl, _, _, _, rfl⟩ (fun _ _ _ _ _ => trivial) ?_ ?_
    · rintro again _ σ _ H7 _ ⟨hh7, g7, v10, v11, v12, rfl⟩ ⟨rfl, rfl⟩
      walk_at "ws"
      refine ⟨hd, c, wa, vp, dp, m, bs, W, ws, ds, rfl, hh7, sqT_t g7.tups hwa6, tup6.g g7 hdg6, web, sqT_t g7.tups hv6, hdia6.g g7 hdg6, rec, ld, fun t H8 g8 hh8 htr => ?_⟩
      have g68 := g7.trans g8
      walk_at "wn"
      try dsimp only
      refine w_seqM (fun σ H' => ∃ (t : Addr), σ = [some (.ref s), some (.ref hd), some (.int (0 + (turn : Int))), v3, some (.ref wa), some (.ref vp), some (.ref dp), some (.ref x), some (.ref r), some vf, some (.int (0 + (again : Int))), some (.ref t), v12, none, none] ∧ G (some (hd, c)) H8 H' ∧ Hand H' hd c ∧ TrsV H' t ws.length ds.length) (fun N kN => ?_) ?_
      · walk_at "ws"
        rcases hf with rfl | ⟨tf, rfl, hf⟩
        · refine w_iteN (by simp) ?_
          walk_at "ws"
          exact kN _ _ ⟨t, rfl, G.refl, hh8, htr⟩
        · refine w_iteE (by simp) ?_
          walk_at "ws"
          refine ⟨hd, c, 2, rfl, hh8, by decide, by decide, fun r1 H9 r10 r11 g9 hh9 => ?_⟩
          walk_at "ws"
          refine w_ite (fun e => ?_) (fun e => ?_)
          · walk_at "ws"
            exact kN _ _ ⟨tf, rfl, g9, hh9, hf.g (g68.trans g9).tups⟩
          · walk_at "ws"
            exact kN _ _ ⟨t, rfl, g9, hh9, htr.g g9.tups⟩
      clear htr t
      rintro σ H9 ⟨t, rfl, g9, hh9, htr⟩
      have g69 := g68.trans g9
      try dsimp only
      refine w_seqM (fun σ H' => ∃ (v : V) (u : Tg), σ = [some (.ref s), some (.ref hd), some (.int (0 + (turn : Int))), v3, some (.ref wa), some (.ref vp), some (.ref dp), some (.ref x), some (.ref r), some vf, some (.int (0 + (again : Int))), some v, v12, none, none] ∧ G (some (hd, c)) H9 H' ∧ Hand H' hd c ∧ Ab (Cs a) hd H' v u ∧ smT u = true) (fun N kN => ?_) ?_
      · walk_at "ws"
        refine ⟨hd, c, 2, rfl, hh9, by decide, by decide, fun r1 HA r10 r11 gA hhA => ?_⟩
        walk_at "ws"
        refine w_ite (fun e => ?_) (fun e => ?_)
        · walk_at "ws"
          have g6A := g69.trans gA
          have aX : Ab (Cs a) hd HA (.ref x) .oth := by
            obtain ⟨dx, _, h1, _⟩ := hwb6.g g6A hh6
            exact ab_ins (.inl rfl) (by
              intro z
              obtain ⟨_, _, i, b, m, k, e2, _⟩ := hhA
              rw [← z, h1] at e2
              cases e2) h1
          have aR : Ab (Cs a) hd HA (.ref r) .oth := by
            obtain ⟨dx, _, _, h1, _⟩ := hrr6.g g6A hh6
            exact ab_ins (.inr rfl) (by
              intro z
              obtain ⟨_, _, i, b, m, k, e2, _⟩ := hhA
              rw [← z, h1] at e2
              cases e2) h1
          refine ⟨hd, c, _, _, .oth, .oth, rfl, hhA, aX, aR, rfl, rfl, fun vo uo HB gB hhB hvo smo => ?_⟩
          walk_at "ws"
          refine ⟨hd, c, t, vo, uo, ws.length, ds.length, rfl, hhB, htr.g (gA.trans gB).tups, by omega, by omega, by omega, hvo, smo, fun v u HC gC hhC hvu smu => ?_⟩
          walk_at "ws"
          exact kN _ _ ⟨v, u, rfl, (gA.trans gB).trans gC, hhC, hvu, smu⟩
        · walk_at "ws"
          obtain ⟨u, hu, smu⟩ := trs_ab (C := Cs a) (hd := hd) (htr.g gA.tups) (by omega) (by omega)
          exact kN _ _ ⟨.ref t, u, rfl, gA, hhA, hu, smu⟩
      rintro σ HA ⟨v, u, rfl, gA, hhA, hvu, smu⟩
      have g6A := g69.trans gA
      clear g7 g8 g9 gA g68 g69 hh7 hh8 hh9 htr
      have hwbA := hwb6.g g6A hh6
      have hrrA := hrr6.g g6A hh6
      have hwaA := sqT_t g6A.tups hwa6
      have tupA := tup6.g g6A hdg6
      have hvA := sqT_t g6A.tups hv6
      have hdiaA := hdia6.g g6A hdg6
      try dsimp only
      refine w_seqM (fun σ H' => H' = HA ∧ ∃ b : Bool, σ = [some (.ref s), some (.ref hd), some (.int (0 + (turn : Int))), v3, some (.ref wa), some (.ref vp), some (.ref dp), some (.ref x), some (.ref r), some vf, some (.int (0 + (again : Int))), some v, some (.bl b), none, none] ∧ (b = true ↔ ∃ ts, u = .tup ts ∧ ts.length = ws.length)) (fun N kN => ?_) ?_
      · walk_at "ws"
        refine ab_isi (ikT T) hvu (.inr (.inr (.inr rfl))) ?_
        walk_at "ws"
        refine w_ite (fun e => ?_) (fun e => ?_)
        · obtain ⟨q, xs, ts, rfl, rfl, hq0, al⟩ := tup_of hvu e
          walk_at "ws"
          refine ⟨q, _, rfl, .inr (.inl hq0), ?_⟩
          walk_at "ws"
          refine ⟨vp, _, rfl, .inr hvA, ?_⟩
          walk_at "ws"
          rw [List.length_map, al.length]
          refine kN _ _ ⟨rfl, _, rfl, ?_⟩
          rw [decide_eq_true_iff]
          constructor
          · intro h
            exact ⟨ts, rfl, by omega⟩
          · rintro ⟨ts', e', l⟩
            cases e'
            omega
        · walk_at "ws"
          refine kN _ _ ⟨rfl, _, rfl, ?_⟩
          constructor
          · intro h
            exact Bool.noConfusion h
          · rintro ⟨ts, rfl, _⟩
            exact Bool.noConfusion (show true = false from e)
      rintro σ H' ⟨eH, b1, rfl, hb1⟩
      replace eH := eH.symm
      subst eH
      try dsimp only
      refine w_seqM (fun σ H' => G none HA H' ∧ ∃ b : Bool, σ = [some (.ref s), some (.ref hd), some (.int (0 + (turn : Int))), v3, some (.ref wa), some (.ref vp), some (.ref dp), some (.ref x), some (.ref r), some vf, some (.int (0 + (again : Int))), some v, some (.bl b), none, none] ∧ (b = true ↔ TrsOk W ws ds u)) (fun N kN => ?_) ?_
      · walk_at "ws"
        cases b1 with
        | false =>
          walk_at "ws"
          refine kN _ _ ⟨G.refl, false, rfl, ⟨fun h => Bool.noConfusion h, ?_⟩⟩
          rintro ⟨ts, e1, e2, _⟩
          exact hb1.mpr ⟨ts, e1, e2⟩
        | true =>
          obtain ⟨ts, rfl, lts⟩ := hb1.mp rfl
          obtain ⟨q, xs, rfl, hq0, al⟩ := ab_tup hvu
          have hqA : SqT K HA q xs := .inl hq0
          have lx := al.length
          walk_at "ws"
          refine ⟨q, _, rfl, hqA, ?_⟩
          intro D hD
          refine lc_it (walk_enumT (xs := xs)) (fun i H' => G none HA H' ∧ BlA H' D i fun j => ∀ t w0, ts[j]? = some t → ws[j]? = some w0 → TrOk (growL W ds (j : Nat)) w0 (hold ds j) ds.length t) ⟨(G.refl).mut hD (fun _ e => nomatch e), .nil⟩ (fun i H' _ g => sqT_t g.1.tups hqA) ?_ ?_
          · rintro i v HB HC hi ⟨gB, bl⟩ ⟨tt, y, z, rfl, htt, rfl, ey, ez⟩
            cases Option.some.inj ey
            have ez : xs[i]? = some z := ez
            obtain ⟨t1, ht1, ha1⟩ := al.get ez
            have gC : G none HB (upd HB tt (.tup [.int (i : Nat), z])) := G.alloc htt
            refine ⟨tt, _, rfl, SqT.of upd_same, rfl, ?_⟩
            refine ⟨_, _, rfl, ?_⟩
            walk_at "ws"
            refine ⟨_, _, rfl, ?_⟩
            walk_at "ws"
            refine ⟨rfl, rfl, ?_⟩
            generalize upd HB tt (.tup [.int (i : Nat), z]) = HC at gC ⊢
            have gAC := gB.trans gC
            obtain ⟨w0, hw0⟩ : ∃ w0, ws[i]? = some w0 := ⟨_, List.getElem?_eq_getElem (by omega)⟩
            walk_at "ws"
            refine ⟨wa, vp, dp, hd, z, t1, i, m, bs, W, ws, ds, w0, rfl, sqT_t gAC.tups hwaA, tupA.g gAC (fun _ e => nomatch e), web, sqT_t gAC.tups hvA, hdiaA.n gAC, rec, ld, hw0, ha1.n gAC, fun cc HD gD hc => ?_⟩
            obtain ⟨acc, q1, q2, q3⟩ := (bl.n (gC.trans gD)).app (c := cc) (by
              rw [hc]
              exact ⟨fun h t w z1 z2 => by rw [ht1] at z1; rw [hw0] at z2; cases z1; cases z2; exact h, fun h => h _ _ ht1 hw0⟩) (by omega)
            exact ⟨acc, q1, q2, (gAC.trans gD).mut hD (fun _ e => nomatch e), q3⟩
          rintro HB ⟨gB, bl⟩
          rw [lx, lts] at bl
          obtain ⟨cs, c1, c2⟩ := bl.fin (K := K)
          walk_at "ws"
          refine ⟨D, cs, rfl, c1, ?_⟩
          walk_at "ws"
          refine kN _ _ ⟨gB, _, rfl, ?_⟩
          rw [c2, trsOk_tup]
          exact ⟨fun h => ⟨lts, fun p t w h1 h2 => h p (List.getElem?_eq_some_iff.mp h2).1 t w h1 h2⟩, fun h j _ t w h1 h2 => h.2 j t w h1 h2⟩
      clear hb1
      rintro σ HB ⟨gB, b2, rfl, hb2⟩
      walk_at "ws"
      refine ⟨x, r, hd, v, u, m, W, ws, ds, rfl, hwbA.n gB, web, hrrA.n gB, rec, ld, hvu.n gB, fun c1 HC gC hc1 => ?_⟩
      walk_at "ws"
      refine ⟨c1, b2, rfl, ?_⟩
      have e1 : c1 = b2 := by
        rw [Bool.eq_iff_iff, hc1, hb2]
      rw [decide_eq_true e1]
      refine ⟨_, rfl, ?_⟩
      refine w_iteN rfl ?_
      have gAC := gB.trans gC
      have hhC := gAC.up.hand (hd, c) rfl hhA
      walk_at "ws"
      have g6C := g6A.trans gAC.up
      have aX : Ab (Cs a) hd HC (.ref x) .oth := by
        obtain ⟨dx, _, h1, _⟩ := hwbA.n gAC
        exact ab_ins (.inl rfl) (by
          intro z
          obtain ⟨_, _, i, b, m, k, e2, _⟩ := hhC
          rw [← z, h1] at e2
          cases e2) h1
      have aR : Ab (Cs a) hd HC (.ref r) .oth := by
        obtain ⟨dx, _, _, h1, _⟩ := hrrA.n gAC
        exact ab_ins (.inr rfl) (by
          intro z
          obtain ⟨_, _, i, b, m, k, e2, _⟩ := hhC
          rw [← z, h1] at e2
          cases e2) h1
      refine ⟨hd, c, _, _, .oth, .oth, rfl, hhC, aX, aR, rfl, rfl, fun vo uo HD gD hhD hvo smo => ?_⟩
      walk_at "ws"
      have g6D := g6C.trans gD
      refine ⟨hd, c, vp, dp, vo, uo, ws, ds, rfl, hhD, sqT_t g6D.tups hv6, hdia6.g g6D hdg6, by omega, by omega, hvo, smo, fun v2 u2 HE gE hhE hv2 sm2 => ?_⟩
      have g6E := g6D.trans gE
      have hwbE := hwb6.g g6E hh6
      have hrrE := hrr6.g g6E hh6
      walk_at "ws"
      refine ⟨x, r, hd, v2, u2, m, W, ws, ds, rfl, hwbE, web, hrrE, rec, ld, hv2, sm2, fun c2 HF gF hc2 => ?_⟩
      have g6F := g6E.trans gF.up
      walk_at "ws"
      refine ⟨wa, vp, dp, hd, v2, u2, m, bs, W, ws, ds, rfl, sqT_t g6F.tups hwa6, tup6.g g6F hdg6, web, sqT_t g6F.tups hv6, hdia6.g g6F hdg6, rec, ld, hv2.n gF, sm2, fun c3 HG gG hc3 => ?_⟩
      walk_at "ws"
      refine ⟨c2, c3, rfl, ?_⟩
      have e2 : c2 = c3 := by
        rw [Bool.eq_iff_iff, hc2, hc3]
      rw [decide_eq_true e2]
      refine ⟨_, rfl, ?_⟩
      refine w_iteN rfl ?_
      walk_at "ws"
      have gEG := gF.trans gG
      exact ⟨gEG.up.hand (hd, c) rfl hhE, g6E.trans gEG.up, _, _, _, rfl⟩
    · rintro σ H7 ⟨hh7, _, v10, v11, v12, rfl⟩
      walk_at "ws"
      exact ⟨hh7, _, _, _, _, _, _, _, _, _, _, _, rfl⟩
  · rintro σ H2 ⟨hh2, u2, u3, u4, u5, u6, u7, u8, u9, u10, u11, u12, rfl⟩
    walk_at "ws"
    exact k _

end
end Mine
/-! ## KN -/
end
namespace Mine
open PySem L2 GA
/-- what the head finds on the heap is what the proofs lean on -/
theorem all_mk {l : PySem.W.OpenLaw} {w : World} {K : PySem.W.Frag} {h : Heap} {mg : Str → Option Value} {fa : Addr} (X : K.In h) (G : h.Ns mainGlobals mg) (hfa : mg "law" = some (.ref fa))
    {ff_is_integer : Addr} {od_is_integer an_is_integer : Option Addr} {sl_is_integer : Array (Option Value)} {oc_is_integer kV_is_integer dc_is_integer pm_is_integer cd_is_integer ct_is_integer : Value}
    {ff_is_between : Addr} {od_is_between an_is_between : Option Addr} {sl_is_between : Array (Option Value)} {oc_is_between kV_is_between dc_is_between pm_is_between cd_is_between ct_is_between : Value}
    {ff_is_below : Addr} {od_is_below an_is_below : Option Addr} {sl_is_below : Array (Option Value)} {oc_is_below kV_is_below dc_is_below pm_is_below cd_is_below ct_is_below : Value}
    {ff_is_tuple_of : Addr} {od_is_tuple_of an_is_tuple_of : Option Addr} {sl_is_tuple_of : Array (Option Value)} {oc_is_tuple_of kV_is_tuple_of dc_is_tuple_of pm_is_tuple_of cd_is_tuple_of ct_is_tuple_of : Value}
    {ff_are_below : Addr} {od_are_below an_are_below : Option Addr} {sl_are_below : Array (Option Value)} {oc_are_below kV_are_below dc_are_below pm_are_below cd_are_below ct_are_below : Value}
    {ff_is_unlike_pair : Addr} {od_is_unlike_pair an_is_unlike_pair : Option Addr} {sl_is_unlike_pair : Array (Option Value)} {oc_is_unlike_pair kV_is_unlike_pair dc_is_unlike_pair pm_is_unlike_pair cd_is_unlike_pair ct_is_unlike_pair : Value}
    {ff_are_ascending : Addr} {od_are_ascending an_are_ascending : Option Addr} {sl_are_ascending : Array (Option Value)} {oc_are_ascending kV_are_ascending dc_are_ascending pm_are_ascending cd_are_ascending ct_are_ascending : Value}
    {ff_is_lot : Addr} {od_is_lot an_is_lot : Option Addr} {sl_is_lot : Array (Option Value)} {oc_is_lot kV_is_lot dc_is_lot pm_is_lot cd_is_lot ct_is_lot : Value}
    {ff_Web_init : Addr} {od_Web_init an_Web_init : Option Addr} {sl_Web_init : Array (Option Value)} {oc_Web_init kV_Web_init dc_Web_init pm_Web_init cd_Web_init ct_Web_init : Value}
    {ff_Web_eq : Addr} {od_Web_eq an_Web_eq : Option Addr} {sl_Web_eq : Array (Option Value)} {oc_Web_eq kV_Web_eq dc_Web_eq pm_Web_eq cd_Web_eq ct_Web_eq : Value}
    {ff_first_wrong_wire : Addr} {od_first_wrong_wire an_first_wrong_wire : Option Addr} {sl_first_wrong_wire : Array (Option Value)} {oc_first_wrong_wire kV_first_wrong_wire dc_first_wrong_wire pm_first_wrong_wire cd_first_wrong_wire ct_first_wrong_wire : Value}
    {ff_ways_from : Addr} {od_ways_from an_ways_from : Option Addr} {sl_ways_from : Array (Option Value)} {oc_ways_from kV_ways_from dc_ways_from pm_ways_from cd_ways_from ct_ways_from : Value}
    {ff_Record_init : Addr} {od_Record_init an_Record_init : Option Addr} {sl_Record_init : Array (Option Value)} {oc_Record_init kV_Record_init dc_Record_init pm_Record_init cd_Record_init ct_Record_init : Value}
    {ff_Record_eq : Addr} {od_Record_eq an_Record_eq : Option Addr} {sl_Record_eq : Array (Option Value)} {oc_Record_eq kV_Record_eq dc_Record_eq pm_Record_eq cd_Record_eq ct_Record_eq : Value}
    {ff_check_record : Addr} {od_check_record an_check_record : Option Addr} {sl_check_record : Array (Option Value)} {oc_check_record kV_check_record dc_check_record pm_check_record cd_check_record ct_check_record : Value}
    {ff_is_diary : Addr} {od_is_diary an_is_diary : Option Addr} {sl_is_diary : Array (Option Value)} {oc_is_diary kV_is_diary dc_is_diary pm_is_diary cd_is_diary ct_is_diary : Value}
    {ff_check_machines : Addr} {od_check_machines an_check_machines : Option Addr} {sl_check_machines : Array (Option Value)} {oc_check_machines kV_check_machines dc_check_machines pm_check_machines cd_check_machines ct_check_machines : Value}
    {ff_check_put : Addr} {od_check_put an_check_put : Option Addr} {sl_check_put : Array (Option Value)} {oc_check_put kV_check_put dc_check_put pm_check_put cd_check_put ct_check_put : Value}
    {ff_places_in : Addr} {od_places_in an_places_in : Option Addr} {sl_places_in : Array (Option Value)} {oc_places_in kV_places_in dc_places_in pm_places_in cd_places_in ct_places_in : Value}
    {ff_grown_over : Addr} {od_grown_over an_grown_over : Option Addr} {sl_grown_over : Array (Option Value)} {oc_grown_over kV_grown_over dc_grown_over pm_grown_over cd_grown_over ct_grown_over : Value}
    {ff_wires_by_put : Addr} {od_wires_by_put an_wires_by_put : Option Addr} {sl_wires_by_put : Array (Option Value)} {oc_wires_by_put kV_wires_by_put dc_wires_by_put pm_wires_by_put cd_wires_by_put ct_wires_by_put : Value}
    {ff_holders_by_put : Addr} {od_holders_by_put an_holders_by_put : Option Addr} {sl_holders_by_put : Array (Option Value)} {oc_holders_by_put kV_holders_by_put dc_holders_by_put pm_holders_by_put cd_holders_by_put ct_holders_by_put : Value}
    {ff_growing : Addr} {od_growing an_growing : Option Addr} {sl_growing : Array (Option Value)} {oc_growing kV_growing dc_growing pm_growing cd_growing ct_growing : Value}
    {ff_bar : Addr} {od_bar an_bar : Option Addr} {sl_bar : Array (Option Value)} {oc_bar kV_bar dc_bar pm_bar cd_bar ct_bar : Value}
    {ff_is_bar : Addr} {od_is_bar an_is_bar : Option Addr} {sl_is_bar : Array (Option Value)} {oc_is_bar kV_is_bar dc_is_bar pm_is_bar cd_is_bar ct_is_bar : Value}
    {ff_is_made : Addr} {od_is_made an_is_made : Option Addr} {sl_is_made : Array (Option Value)} {oc_is_made kV_is_made dc_is_made pm_is_made cd_is_made ct_is_made : Value}
    {ff_trees : Addr} {od_trees an_trees : Option Addr} {sl_trees : Array (Option Value)} {oc_trees kV_trees dc_trees pm_trees cd_trees ct_trees : Value}
    {ff_is_trees : Addr} {od_is_trees an_is_trees : Option Addr} {sl_is_trees : Array (Option Value)} {oc_is_trees kV_is_trees dc_is_trees pm_is_trees cd_is_trees ct_is_trees : Value}
    {ff_is_tree : Addr} {od_is_tree an_is_tree : Option Addr} {sl_is_tree : Array (Option Value)} {oc_is_tree kV_is_tree dc_is_tree pm_is_tree cd_is_tree ct_is_tree : Value}
    {ff__law_hand : Addr} {od__law_hand an__law_hand : Option Addr} {sl__law_hand : Array (Option Value)} {oc__law_hand kV__law_hand dc__law_hand pm__law_hand cd__law_hand ct__law_hand : Value}
    {ff__law_draw : Addr} {od__law_draw an__law_draw : Option Addr} {sl__law_draw : Array (Option Value)} {oc__law_draw kV__law_draw dc__law_draw pm__law_draw cd__law_draw ct__law_draw : Value}
    {ff__law_flag : Addr} {od__law_flag an__law_flag : Option Addr} {sl__law_flag : Array (Option Value)} {oc__law_flag kV__law_flag dc__law_flag pm__law_flag cd__law_flag ct__law_flag : Value}
    {ff__law_deep : Addr} {od__law_deep an__law_deep : Option Addr} {sl__law_deep : Array (Option Value)} {oc__law_deep kV__law_deep dc__law_deep pm__law_deep cd__law_deep ct__law_deep : Value}
    {ff__law_web : Addr} {od__law_web an__law_web : Option Addr} {sl__law_web : Array (Option Value)} {oc__law_web kV__law_web dc__law_web pm__law_web cd__law_web ct__law_web : Value}
    {ff__law_ran : Addr} {od__law_ran an__law_ran : Option Addr} {sl__law_ran : Array (Option Value)} {oc__law_ran kV__law_ran dc__law_ran pm__law_ran cd__law_ran ct__law_ran : Value}
    {ff__law_bent : Addr} {od__law_bent an__law_bent : Option Addr} {sl__law_bent : Array (Option Value)} {oc__law_bent kV__law_bent dc__law_bent pm__law_bent cd__law_bent ct__law_bent : Value}
    {ff__law_parts : Addr} {od__law_parts an__law_parts : Option Addr} {sl__law_parts : Array (Option Value)} {oc__law_parts kV__law_parts dc__law_parts pm__law_parts cd__law_parts ct__law_parts : Value}
    {ff__law_grow : Addr} {od__law_grow an__law_grow : Option Addr} {sl__law_grow : Array (Option Value)} {oc__law_grow kV__law_grow dc__law_grow pm__law_grow cd__law_grow ct__law_grow : Value}
    {ff__law_is_whole : Addr} {od__law_is_whole an__law_is_whole : Option Addr} {sl__law_is_whole : Array (Option Value)} {oc__law_is_whole kV__law_is_whole dc__law_is_whole pm__law_is_whole cd__law_is_whole ct__law_is_whole : Value}
    {ff__law_is_tree : Addr} {od__law_is_tree an__law_is_tree : Option Addr} {sl__law_is_tree : Array (Option Value)} {oc__law_is_tree kV__law_is_tree dc__law_is_tree pm__law_is_tree cd__law_is_tree ct__law_is_tree : Value}
    {ff__law_bars : Addr} {od__law_bars an__law_bars : Option Addr} {sl__law_bars : Array (Option Value)} {oc__law_bars kV__law_bars dc__law_bars pm__law_bars cd__law_bars ct__law_bars : Value}
    {ff__law_odd : Addr} {od__law_odd an__law_odd : Option Addr} {sl__law_odd : Array (Option Value)} {oc__law_odd kV__law_odd dc__law_odd pm__law_odd cd__law_odd ct__law_odd : Value}
    {ff__law_drawn_trees : Addr} {od__law_drawn_trees an__law_drawn_trees : Option Addr} {sl__law_drawn_trees : Array (Option Value)} {oc__law_drawn_trees kV__law_drawn_trees dc__law_drawn_trees pm__law_drawn_trees cd__law_drawn_trees ct__law_drawn_trees : Value}
    {ff__law_bent_trees : Addr} {od__law_bent_trees an__law_bent_trees : Option Addr} {sl__law_bent_trees : Array (Option Value)} {oc__law_bent_trees kV__law_bent_trees dc__law_bent_trees pm__law_bent_trees cd__law_bent_trees ct__law_bent_trees : Value}
    {ff__law_drawn_bar : Addr} {od__law_drawn_bar an__law_drawn_bar : Option Addr} {sl__law_drawn_bar : Array (Option Value)} {oc__law_drawn_bar kV__law_drawn_bar dc__law_drawn_bar pm__law_drawn_bar cd__law_drawn_bar ct__law_drawn_bar : Value}
    {ff_law : Addr} {od_law an_law : Option Addr} {sl_law : Array (Option Value)} {oc_law kV_law dc_law pm_law cd_law ct_law : Value}
    {C_Web : Addr}
    {C_Record : Addr}
    {tk_MOST_MACHINES : Tok}
    {tk_MOST_PUTS : Tok}
    (aC_Web : PySem.W.nsIn K mainGlobals "Web" = some (some (.ref C_Web)))
    (aC_Record : PySem.W.nsIn K mainGlobals "Record" = some (some (.ref C_Record)))
    (a_is_integer : PySem.W.nsIn K mainGlobals "is_integer" = some (some (.ref ff_is_integer)))
    (l_is_integer : K.lookup ff_is_integer = some ⟨oc_is_integer, od_is_integer, .func (PySem.W.fnOf "is_integer" "is_integer" (defArgs s_is_integer) (defBody s_is_integer) (defScope s_is_integer) .none kV_is_integer dc_is_integer pm_is_integer an_is_integer cd_is_integer ct_is_integer), sl_is_integer⟩)
    (c_is_integer : PySem.W.codeIn K cd_is_integer "is_integer" = true)
    (k_is_integer : PySem.W.keepIn K (.ref ff_is_integer) = true)
    (a_is_between : PySem.W.nsIn K mainGlobals "is_between" = some (some (.ref ff_is_between)))
    (l_is_between : K.lookup ff_is_between = some ⟨oc_is_between, od_is_between, .func (PySem.W.fnOf "is_between" "is_between" (defArgs s_is_between) (defBody s_is_between) (defScope s_is_between) .none kV_is_between dc_is_between pm_is_between an_is_between cd_is_between ct_is_between), sl_is_between⟩)
    (c_is_between : PySem.W.codeIn K cd_is_between "is_between" = true)
    (k_is_between : PySem.W.keepIn K (.ref ff_is_between) = true)
    (a_is_below : PySem.W.nsIn K mainGlobals "is_below" = some (some (.ref ff_is_below)))
    (l_is_below : K.lookup ff_is_below = some ⟨oc_is_below, od_is_below, .func (PySem.W.fnOf "is_below" "is_below" (defArgs s_is_below) (defBody s_is_below) (defScope s_is_below) .none kV_is_below dc_is_below pm_is_below an_is_below cd_is_below ct_is_below), sl_is_below⟩)
    (c_is_below : PySem.W.codeIn K cd_is_below "is_below" = true)
    (k_is_below : PySem.W.keepIn K (.ref ff_is_below) = true)
    (a_is_tuple_of : PySem.W.nsIn K mainGlobals "is_tuple_of" = some (some (.ref ff_is_tuple_of)))
    (l_is_tuple_of : K.lookup ff_is_tuple_of = some ⟨oc_is_tuple_of, od_is_tuple_of, .func (PySem.W.fnOf "is_tuple_of" "is_tuple_of" (defArgs s_is_tuple_of) (defBody s_is_tuple_of) (defScope s_is_tuple_of) .none kV_is_tuple_of dc_is_tuple_of pm_is_tuple_of an_is_tuple_of cd_is_tuple_of ct_is_tuple_of), sl_is_tuple_of⟩)
    (c_is_tuple_of : PySem.W.codeIn K cd_is_tuple_of "is_tuple_of" = true)
    (k_is_tuple_of : PySem.W.keepIn K (.ref ff_is_tuple_of) = true)
    (a_are_below : PySem.W.nsIn K mainGlobals "are_below" = some (some (.ref ff_are_below)))
    (l_are_below : K.lookup ff_are_below = some ⟨oc_are_below, od_are_below, .func (PySem.W.fnOf "are_below" "are_below" (defArgs s_are_below) (defBody s_are_below) (defScope s_are_below) .none kV_are_below dc_are_below pm_are_below an_are_below cd_are_below ct_are_below), sl_are_below⟩)
    (c_are_below : PySem.W.codeIn K cd_are_below "are_below" = true)
    (k_are_below : PySem.W.keepIn K (.ref ff_are_below) = true)
    (a_is_unlike_pair : PySem.W.nsIn K mainGlobals "is_unlike_pair" = some (some (.ref ff_is_unlike_pair)))
    (l_is_unlike_pair : K.lookup ff_is_unlike_pair = some ⟨oc_is_unlike_pair, od_is_unlike_pair, .func (PySem.W.fnOf "is_unlike_pair" "is_unlike_pair" (defArgs s_is_unlike_pair) (defBody s_is_unlike_pair) (defScope s_is_unlike_pair) .none kV_is_unlike_pair dc_is_unlike_pair pm_is_unlike_pair an_is_unlike_pair cd_is_unlike_pair ct_is_unlike_pair), sl_is_unlike_pair⟩)
    (c_is_unlike_pair : PySem.W.codeIn K cd_is_unlike_pair "is_unlike_pair" = true)
    (k_is_unlike_pair : PySem.W.keepIn K (.ref ff_is_unlike_pair) = true)
    (a_are_ascending : PySem.W.nsIn K mainGlobals "are_ascending" = some (some (.ref ff_are_ascending)))
    (l_are_ascending : K.lookup ff_are_ascending = some ⟨oc_are_ascending, od_are_ascending, .func (PySem.W.fnOf "are_ascending" "are_ascending" (defArgs s_are_ascending) (defBody s_are_ascending) (defScope s_are_ascending) .none kV_are_ascending dc_are_ascending pm_are_ascending an_are_ascending cd_are_ascending ct_are_ascending), sl_are_ascending⟩)
    (c_are_ascending : PySem.W.codeIn K cd_are_ascending "are_ascending" = true)
    (k_are_ascending : PySem.W.keepIn K (.ref ff_are_ascending) = true)
    (a_is_lot : PySem.W.nsIn K mainGlobals "is_lot" = some (some (.ref ff_is_lot)))
    (l_is_lot : K.lookup ff_is_lot = some ⟨oc_is_lot, od_is_lot, .func (PySem.W.fnOf "is_lot" "is_lot" (defArgs s_is_lot) (defBody s_is_lot) (defScope s_is_lot) .none kV_is_lot dc_is_lot pm_is_lot an_is_lot cd_is_lot ct_is_lot), sl_is_lot⟩)
    (c_is_lot : PySem.W.codeIn K cd_is_lot "is_lot" = true)
    (k_is_lot : PySem.W.keepIn K (.ref ff_is_lot) = true)
    (a_Web_init : PySem.W.findIn K (.ref C_Web) "__init__" = some (some (.ref ff_Web_init)))
    (i_Web_init : PySem.W.isFn K (.ref ff_Web_init) = true)
    (l_Web_init : K.lookup ff_Web_init = some ⟨oc_Web_init, od_Web_init, .func (PySem.W.fnOf "__init__" "Web.__init__" (defArgs s_Web_init) (defBody s_Web_init) (defScope s_Web_init) .none kV_Web_init dc_Web_init pm_Web_init an_Web_init cd_Web_init ct_Web_init), sl_Web_init⟩)
    (c_Web_init : PySem.W.codeIn K cd_Web_init "Web.__init__" = true)
    (k_Web_init : PySem.W.keepIn K (.ref ff_Web_init) = true)
    (a_Web_eq : PySem.W.findIn K (.ref C_Web) "__eq__" = some (some (.ref ff_Web_eq)))
    (i_Web_eq : PySem.W.isFn K (.ref ff_Web_eq) = true)
    (l_Web_eq : K.lookup ff_Web_eq = some ⟨oc_Web_eq, od_Web_eq, .func (PySem.W.fnOf "__eq__" "Web.__eq__" (defArgs s_Web_eq) (defBody s_Web_eq) (defScope s_Web_eq) .none kV_Web_eq dc_Web_eq pm_Web_eq an_Web_eq cd_Web_eq ct_Web_eq), sl_Web_eq⟩)
    (c_Web_eq : PySem.W.codeIn K cd_Web_eq "Web.__eq__" = true)
    (k_Web_eq : PySem.W.keepIn K (.ref ff_Web_eq) = true)
    (a_first_wrong_wire : PySem.W.nsIn K mainGlobals "first_wrong_wire" = some (some (.ref ff_first_wrong_wire)))
    (l_first_wrong_wire : K.lookup ff_first_wrong_wire = some ⟨oc_first_wrong_wire, od_first_wrong_wire, .func (PySem.W.fnOf "first_wrong_wire" "first_wrong_wire" (defArgs s_first_wrong_wire) (defBody s_first_wrong_wire) (defScope s_first_wrong_wire) .none kV_first_wrong_wire dc_first_wrong_wire pm_first_wrong_wire an_first_wrong_wire cd_first_wrong_wire ct_first_wrong_wire), sl_first_wrong_wire⟩)
    (c_first_wrong_wire : PySem.W.codeIn K cd_first_wrong_wire "first_wrong_wire" = true)
    (k_first_wrong_wire : PySem.W.keepIn K (.ref ff_first_wrong_wire) = true)
    (a_ways_from : PySem.W.nsIn K mainGlobals "ways_from" = some (some (.ref ff_ways_from)))
    (l_ways_from : K.lookup ff_ways_from = some ⟨oc_ways_from, od_ways_from, .func (PySem.W.fnOf "ways_from" "ways_from" (defArgs s_ways_from) (defBody s_ways_from) (defScope s_ways_from) .none kV_ways_from dc_ways_from pm_ways_from an_ways_from cd_ways_from ct_ways_from), sl_ways_from⟩)
    (c_ways_from : PySem.W.codeIn K cd_ways_from "ways_from" = true)
    (k_ways_from : PySem.W.keepIn K (.ref ff_ways_from) = true)
    (a_Record_init : PySem.W.findIn K (.ref C_Record) "__init__" = some (some (.ref ff_Record_init)))
    (i_Record_init : PySem.W.isFn K (.ref ff_Record_init) = true)
    (l_Record_init : K.lookup ff_Record_init = some ⟨oc_Record_init, od_Record_init, .func (PySem.W.fnOf "__init__" "Record.__init__" (defArgs s_Record_init) (defBody s_Record_init) (defScope s_Record_init) .none kV_Record_init dc_Record_init pm_Record_init an_Record_init cd_Record_init ct_Record_init), sl_Record_init⟩)
    (c_Record_init : PySem.W.codeIn K cd_Record_init "Record.__init__" = true)
    (k_Record_init : PySem.W.keepIn K (.ref ff_Record_init) = true)
    (a_Record_eq : PySem.W.findIn K (.ref C_Record) "__eq__" = some (some (.ref ff_Record_eq)))
    (i_Record_eq : PySem.W.isFn K (.ref ff_Record_eq) = true)
    (l_Record_eq : K.lookup ff_Record_eq = some ⟨oc_Record_eq, od_Record_eq, .func (PySem.W.fnOf "__eq__" "Record.__eq__" (defArgs s_Record_eq) (defBody s_Record_eq) (defScope s_Record_eq) .none kV_Record_eq dc_Record_eq pm_Record_eq an_Record_eq cd_Record_eq ct_Record_eq), sl_Record_eq⟩)
    (c_Record_eq : PySem.W.codeIn K cd_Record_eq "Record.__eq__" = true)
    (k_Record_eq : PySem.W.keepIn K (.ref ff_Record_eq) = true)
    (a_check_record : PySem.W.nsIn K mainGlobals "check_record" = some (some (.ref ff_check_record)))
    (l_check_record : K.lookup ff_check_record = some ⟨oc_check_record, od_check_record, .func (PySem.W.fnOf "check_record" "check_record" (defArgs s_check_record) (defBody s_check_record) (defScope s_check_record) .none kV_check_record dc_check_record pm_check_record an_check_record cd_check_record ct_check_record), sl_check_record⟩)
    (c_check_record : PySem.W.codeIn K cd_check_record "check_record" = true)
    (k_check_record : PySem.W.keepIn K (.ref ff_check_record) = true)
    (a_is_diary : PySem.W.nsIn K mainGlobals "is_diary" = some (some (.ref ff_is_diary)))
    (l_is_diary : K.lookup ff_is_diary = some ⟨oc_is_diary, od_is_diary, .func (PySem.W.fnOf "is_diary" "is_diary" (defArgs s_is_diary) (defBody s_is_diary) (defScope s_is_diary) .none kV_is_diary dc_is_diary pm_is_diary an_is_diary cd_is_diary ct_is_diary), sl_is_diary⟩)
    (c_is_diary : PySem.W.codeIn K cd_is_diary "is_diary" = true)
    (k_is_diary : PySem.W.keepIn K (.ref ff_is_diary) = true)
    (a_check_machines : PySem.W.nsIn K mainGlobals "check_machines" = some (some (.ref ff_check_machines)))
    (l_check_machines : K.lookup ff_check_machines = some ⟨oc_check_machines, od_check_machines, .func (PySem.W.fnOf "check_machines" "check_machines" (defArgs s_check_machines) (defBody s_check_machines) (defScope s_check_machines) .none kV_check_machines dc_check_machines pm_check_machines an_check_machines cd_check_machines ct_check_machines), sl_check_machines⟩)
    (c_check_machines : PySem.W.codeIn K cd_check_machines "check_machines" = true)
    (k_check_machines : PySem.W.keepIn K (.ref ff_check_machines) = true)
    (a_check_put : PySem.W.nsIn K mainGlobals "check_put" = some (some (.ref ff_check_put)))
    (l_check_put : K.lookup ff_check_put = some ⟨oc_check_put, od_check_put, .func (PySem.W.fnOf "check_put" "check_put" (defArgs s_check_put) (defBody s_check_put) (defScope s_check_put) .none kV_check_put dc_check_put pm_check_put an_check_put cd_check_put ct_check_put), sl_check_put⟩)
    (c_check_put : PySem.W.codeIn K cd_check_put "check_put" = true)
    (k_check_put : PySem.W.keepIn K (.ref ff_check_put) = true)
    (a_places_in : PySem.W.nsIn K mainGlobals "places_in" = some (some (.ref ff_places_in)))
    (l_places_in : K.lookup ff_places_in = some ⟨oc_places_in, od_places_in, .func (PySem.W.fnOf "places_in" "places_in" (defArgs s_places_in) (defBody s_places_in) (defScope s_places_in) .none kV_places_in dc_places_in pm_places_in an_places_in cd_places_in ct_places_in), sl_places_in⟩)
    (c_places_in : PySem.W.codeIn K cd_places_in "places_in" = true)
    (k_places_in : PySem.W.keepIn K (.ref ff_places_in) = true)
    (a_grown_over : PySem.W.nsIn K mainGlobals "grown_over" = some (some (.ref ff_grown_over)))
    (l_grown_over : K.lookup ff_grown_over = some ⟨oc_grown_over, od_grown_over, .func (PySem.W.fnOf "grown_over" "grown_over" (defArgs s_grown_over) (defBody s_grown_over) (defScope s_grown_over) .none kV_grown_over dc_grown_over pm_grown_over an_grown_over cd_grown_over ct_grown_over), sl_grown_over⟩)
    (c_grown_over : PySem.W.codeIn K cd_grown_over "grown_over" = true)
    (k_grown_over : PySem.W.keepIn K (.ref ff_grown_over) = true)
    (a_wires_by_put : PySem.W.nsIn K mainGlobals "wires_by_put" = some (some (.ref ff_wires_by_put)))
    (l_wires_by_put : K.lookup ff_wires_by_put = some ⟨oc_wires_by_put, od_wires_by_put, .func (PySem.W.fnOf "wires_by_put" "wires_by_put" (defArgs s_wires_by_put) (defBody s_wires_by_put) (defScope s_wires_by_put) .none kV_wires_by_put dc_wires_by_put pm_wires_by_put an_wires_by_put cd_wires_by_put ct_wires_by_put), sl_wires_by_put⟩)
    (c_wires_by_put : PySem.W.codeIn K cd_wires_by_put "wires_by_put" = true)
    (k_wires_by_put : PySem.W.keepIn K (.ref ff_wires_by_put) = true)
    (a_holders_by_put : PySem.W.nsIn K mainGlobals "holders_by_put" = some (some (.ref ff_holders_by_put)))
    (l_holders_by_put : K.lookup ff_holders_by_put = some ⟨oc_holders_by_put, od_holders_by_put, .func (PySem.W.fnOf "holders_by_put" "holders_by_put" (defArgs s_holders_by_put) (defBody s_holders_by_put) (defScope s_holders_by_put) .none kV_holders_by_put dc_holders_by_put pm_holders_by_put an_holders_by_put cd_holders_by_put ct_holders_by_put), sl_holders_by_put⟩)
    (c_holders_by_put : PySem.W.codeIn K cd_holders_by_put "holders_by_put" = true)
    (k_holders_by_put : PySem.W.keepIn K (.ref ff_holders_by_put) = true)
    (a_growing : PySem.W.nsIn K mainGlobals "growing" = some (some (.ref ff_growing)))
    (l_growing : K.lookup ff_growing = some ⟨oc_growing, od_growing, .func (PySem.W.fnOf "growing" "growing" (defArgs s_growing) (defBody s_growing) (defScope s_growing) .none kV_growing dc_growing pm_growing an_growing cd_growing ct_growing), sl_growing⟩)
    (c_growing : PySem.W.codeIn K cd_growing "growing" = true)
    (k_growing : PySem.W.keepIn K (.ref ff_growing) = true)
    (a_bar : PySem.W.nsIn K mainGlobals "bar" = some (some (.ref ff_bar)))
    (l_bar : K.lookup ff_bar = some ⟨oc_bar, od_bar, .func (PySem.W.fnOf "bar" "bar" (defArgs s_bar) (defBody s_bar) (defScope s_bar) .none kV_bar dc_bar pm_bar an_bar cd_bar ct_bar), sl_bar⟩)
    (c_bar : PySem.W.codeIn K cd_bar "bar" = true)
    (k_bar : PySem.W.keepIn K (.ref ff_bar) = true)
    (a_is_bar : PySem.W.nsIn K mainGlobals "is_bar" = some (some (.ref ff_is_bar)))
    (l_is_bar : K.lookup ff_is_bar = some ⟨oc_is_bar, od_is_bar, .func (PySem.W.fnOf "is_bar" "is_bar" (defArgs s_is_bar) (defBody s_is_bar) (defScope s_is_bar) .none kV_is_bar dc_is_bar pm_is_bar an_is_bar cd_is_bar ct_is_bar), sl_is_bar⟩)
    (c_is_bar : PySem.W.codeIn K cd_is_bar "is_bar" = true)
    (k_is_bar : PySem.W.keepIn K (.ref ff_is_bar) = true)
    (a_is_made : PySem.W.nsIn K mainGlobals "is_made" = some (some (.ref ff_is_made)))
    (l_is_made : K.lookup ff_is_made = some ⟨oc_is_made, od_is_made, .func (PySem.W.fnOf "is_made" "is_made" (defArgs s_is_made) (defBody s_is_made) (defScope s_is_made) .none kV_is_made dc_is_made pm_is_made an_is_made cd_is_made ct_is_made), sl_is_made⟩)
    (c_is_made : PySem.W.codeIn K cd_is_made "is_made" = true)
    (k_is_made : PySem.W.keepIn K (.ref ff_is_made) = true)
    (a_trees : PySem.W.nsIn K mainGlobals "trees" = some (some (.ref ff_trees)))
    (l_trees : K.lookup ff_trees = some ⟨oc_trees, od_trees, .func (PySem.W.fnOf "trees" "trees" (defArgs s_trees) (defBody s_trees) (defScope s_trees) .none kV_trees dc_trees pm_trees an_trees cd_trees ct_trees), sl_trees⟩)
    (c_trees : PySem.W.codeIn K cd_trees "trees" = true)
    (k_trees : PySem.W.keepIn K (.ref ff_trees) = true)
    (a_is_trees : PySem.W.nsIn K mainGlobals "is_trees" = some (some (.ref ff_is_trees)))
    (l_is_trees : K.lookup ff_is_trees = some ⟨oc_is_trees, od_is_trees, .func (PySem.W.fnOf "is_trees" "is_trees" (defArgs s_is_trees) (defBody s_is_trees) (defScope s_is_trees) .none kV_is_trees dc_is_trees pm_is_trees an_is_trees cd_is_trees ct_is_trees), sl_is_trees⟩)
    (c_is_trees : PySem.W.codeIn K cd_is_trees "is_trees" = true)
    (k_is_trees : PySem.W.keepIn K (.ref ff_is_trees) = true)
    (a_is_tree : PySem.W.nsIn K mainGlobals "is_tree" = some (some (.ref ff_is_tree)))
    (l_is_tree : K.lookup ff_is_tree = some ⟨oc_is_tree, od_is_tree, .func (PySem.W.fnOf "is_tree" "is_tree" (defArgs s_is_tree) (defBody s_is_tree) (defScope s_is_tree) .none kV_is_tree dc_is_tree pm_is_tree an_is_tree cd_is_tree ct_is_tree), sl_is_tree⟩)
    (c_is_tree : PySem.W.codeIn K cd_is_tree "is_tree" = true)
    (k_is_tree : PySem.W.keepIn K (.ref ff_is_tree) = true)
    (a__law_hand : PySem.W.nsIn K mainGlobals "_law_hand" = some (some (.ref ff__law_hand)))
    (l__law_hand : K.lookup ff__law_hand = some ⟨oc__law_hand, od__law_hand, .func (PySem.W.fnOf "_law_hand" "_law_hand" (defArgs s__law_hand) (defBody s__law_hand) (defScope s__law_hand) .none kV__law_hand dc__law_hand pm__law_hand an__law_hand cd__law_hand ct__law_hand), sl__law_hand⟩)
    (c__law_hand : PySem.W.codeIn K cd__law_hand "_law_hand" = true)
    (k__law_hand : PySem.W.keepIn K (.ref ff__law_hand) = true)
    (a__law_draw : PySem.W.nsIn K mainGlobals "_law_draw" = some (some (.ref ff__law_draw)))
    (l__law_draw : K.lookup ff__law_draw = some ⟨oc__law_draw, od__law_draw, .func (PySem.W.fnOf "_law_draw" "_law_draw" (defArgs s__law_draw) (defBody s__law_draw) (defScope s__law_draw) .none kV__law_draw dc__law_draw pm__law_draw an__law_draw cd__law_draw ct__law_draw), sl__law_draw⟩)
    (c__law_draw : PySem.W.codeIn K cd__law_draw "_law_draw" = true)
    (k__law_draw : PySem.W.keepIn K (.ref ff__law_draw) = true)
    (a__law_flag : PySem.W.nsIn K mainGlobals "_law_flag" = some (some (.ref ff__law_flag)))
    (l__law_flag : K.lookup ff__law_flag = some ⟨oc__law_flag, od__law_flag, .func (PySem.W.fnOf "_law_flag" "_law_flag" (defArgs s__law_flag) (defBody s__law_flag) (defScope s__law_flag) .none kV__law_flag dc__law_flag pm__law_flag an__law_flag cd__law_flag ct__law_flag), sl__law_flag⟩)
    (c__law_flag : PySem.W.codeIn K cd__law_flag "_law_flag" = true)
    (k__law_flag : PySem.W.keepIn K (.ref ff__law_flag) = true)
    (a__law_deep : PySem.W.nsIn K mainGlobals "_law_deep" = some (some (.ref ff__law_deep)))
    (l__law_deep : K.lookup ff__law_deep = some ⟨oc__law_deep, od__law_deep, .func (PySem.W.fnOf "_law_deep" "_law_deep" (defArgs s__law_deep) (defBody s__law_deep) (defScope s__law_deep) .none kV__law_deep dc__law_deep pm__law_deep an__law_deep cd__law_deep ct__law_deep), sl__law_deep⟩)
    (c__law_deep : PySem.W.codeIn K cd__law_deep "_law_deep" = true)
    (k__law_deep : PySem.W.keepIn K (.ref ff__law_deep) = true)
    (a__law_web : PySem.W.nsIn K mainGlobals "_law_web" = some (some (.ref ff__law_web)))
    (l__law_web : K.lookup ff__law_web = some ⟨oc__law_web, od__law_web, .func (PySem.W.fnOf "_law_web" "_law_web" (defArgs s__law_web) (defBody s__law_web) (defScope s__law_web) .none kV__law_web dc__law_web pm__law_web an__law_web cd__law_web ct__law_web), sl__law_web⟩)
    (c__law_web : PySem.W.codeIn K cd__law_web "_law_web" = true)
    (k__law_web : PySem.W.keepIn K (.ref ff__law_web) = true)
    (a__law_ran : PySem.W.nsIn K mainGlobals "_law_ran" = some (some (.ref ff__law_ran)))
    (l__law_ran : K.lookup ff__law_ran = some ⟨oc__law_ran, od__law_ran, .func (PySem.W.fnOf "_law_ran" "_law_ran" (defArgs s__law_ran) (defBody s__law_ran) (defScope s__law_ran) .none kV__law_ran dc__law_ran pm__law_ran an__law_ran cd__law_ran ct__law_ran), sl__law_ran⟩)
    (c__law_ran : PySem.W.codeIn K cd__law_ran "_law_ran" = true)
    (k__law_ran : PySem.W.keepIn K (.ref ff__law_ran) = true)
    (a__law_bent : PySem.W.nsIn K mainGlobals "_law_bent" = some (some (.ref ff__law_bent)))
    (l__law_bent : K.lookup ff__law_bent = some ⟨oc__law_bent, od__law_bent, .func (PySem.W.fnOf "_law_bent" "_law_bent" (defArgs s__law_bent) (defBody s__law_bent) (defScope s__law_bent) .none kV__law_bent dc__law_bent pm__law_bent an__law_bent cd__law_bent ct__law_bent), sl__law_bent⟩)
    (c__law_bent : PySem.W.codeIn K cd__law_bent "_law_bent" = true)
    (k__law_bent : PySem.W.keepIn K (.ref ff__law_bent) = true)
    (a__law_parts : PySem.W.nsIn K mainGlobals "_law_parts" = some (some (.ref ff__law_parts)))
    (l__law_parts : K.lookup ff__law_parts = some ⟨oc__law_parts, od__law_parts, .func (PySem.W.fnOf "_law_parts" "_law_parts" (defArgs s__law_parts) (defBody s__law_parts) (defScope s__law_parts) .none kV__law_parts dc__law_parts pm__law_parts an__law_parts cd__law_parts ct__law_parts), sl__law_parts⟩)
    (c__law_parts : PySem.W.codeIn K cd__law_parts "_law_parts" = true)
    (k__law_parts : PySem.W.keepIn K (.ref ff__law_parts) = true)
    (a__law_grow : PySem.W.nsIn K mainGlobals "_law_grow" = some (some (.ref ff__law_grow)))
    (l__law_grow : K.lookup ff__law_grow = some ⟨oc__law_grow, od__law_grow, .func (PySem.W.fnOf "_law_grow" "_law_grow" (defArgs s__law_grow) (defBody s__law_grow) (defScope s__law_grow) .none kV__law_grow dc__law_grow pm__law_grow an__law_grow cd__law_grow ct__law_grow), sl__law_grow⟩)
    (c__law_grow : PySem.W.codeIn K cd__law_grow "_law_grow" = true)
    (k__law_grow : PySem.W.keepIn K (.ref ff__law_grow) = true)
    (a__law_is_whole : PySem.W.nsIn K mainGlobals "_law_is_whole" = some (some (.ref ff__law_is_whole)))
    (l__law_is_whole : K.lookup ff__law_is_whole = some ⟨oc__law_is_whole, od__law_is_whole, .func (PySem.W.fnOf "_law_is_whole" "_law_is_whole" (defArgs s__law_is_whole) (defBody s__law_is_whole) (defScope s__law_is_whole) .none kV__law_is_whole dc__law_is_whole pm__law_is_whole an__law_is_whole cd__law_is_whole ct__law_is_whole), sl__law_is_whole⟩)
    (c__law_is_whole : PySem.W.codeIn K cd__law_is_whole "_law_is_whole" = true)
    (k__law_is_whole : PySem.W.keepIn K (.ref ff__law_is_whole) = true)
    (a__law_is_tree : PySem.W.nsIn K mainGlobals "_law_is_tree" = some (some (.ref ff__law_is_tree)))
    (l__law_is_tree : K.lookup ff__law_is_tree = some ⟨oc__law_is_tree, od__law_is_tree, .func (PySem.W.fnOf "_law_is_tree" "_law_is_tree" (defArgs s__law_is_tree) (defBody s__law_is_tree) (defScope s__law_is_tree) .none kV__law_is_tree dc__law_is_tree pm__law_is_tree an__law_is_tree cd__law_is_tree ct__law_is_tree), sl__law_is_tree⟩)
    (c__law_is_tree : PySem.W.codeIn K cd__law_is_tree "_law_is_tree" = true)
    (k__law_is_tree : PySem.W.keepIn K (.ref ff__law_is_tree) = true)
    (a__law_bars : PySem.W.nsIn K mainGlobals "_law_bars" = some (some (.ref ff__law_bars)))
    (l__law_bars : K.lookup ff__law_bars = some ⟨oc__law_bars, od__law_bars, .func (PySem.W.fnOf "_law_bars" "_law_bars" (defArgs s__law_bars) (defBody s__law_bars) (defScope s__law_bars) .none kV__law_bars dc__law_bars pm__law_bars an__law_bars cd__law_bars ct__law_bars), sl__law_bars⟩)
    (c__law_bars : PySem.W.codeIn K cd__law_bars "_law_bars" = true)
    (k__law_bars : PySem.W.keepIn K (.ref ff__law_bars) = true)
    (a__law_odd : PySem.W.nsIn K mainGlobals "_law_odd" = some (some (.ref ff__law_odd)))
    (l__law_odd : K.lookup ff__law_odd = some ⟨oc__law_odd, od__law_odd, .func (PySem.W.fnOf "_law_odd" "_law_odd" (defArgs s__law_odd) (defBody s__law_odd) (defScope s__law_odd) .none kV__law_odd dc__law_odd pm__law_odd an__law_odd cd__law_odd ct__law_odd), sl__law_odd⟩)
    (c__law_odd : PySem.W.codeIn K cd__law_odd "_law_odd" = true)
    (k__law_odd : PySem.W.keepIn K (.ref ff__law_odd) = true)
    (a__law_drawn_trees : PySem.W.nsIn K mainGlobals "_law_drawn_trees" = some (some (.ref ff__law_drawn_trees)))
    (l__law_drawn_trees : K.lookup ff__law_drawn_trees = some ⟨oc__law_drawn_trees, od__law_drawn_trees, .func (PySem.W.fnOf "_law_drawn_trees" "_law_drawn_trees" (defArgs s__law_drawn_trees) (defBody s__law_drawn_trees) (defScope s__law_drawn_trees) .none kV__law_drawn_trees dc__law_drawn_trees pm__law_drawn_trees an__law_drawn_trees cd__law_drawn_trees ct__law_drawn_trees), sl__law_drawn_trees⟩)
    (c__law_drawn_trees : PySem.W.codeIn K cd__law_drawn_trees "_law_drawn_trees" = true)
    (k__law_drawn_trees : PySem.W.keepIn K (.ref ff__law_drawn_trees) = true)
    (a__law_bent_trees : PySem.W.nsIn K mainGlobals "_law_bent_trees" = some (some (.ref ff__law_bent_trees)))
    (l__law_bent_trees : K.lookup ff__law_bent_trees = some ⟨oc__law_bent_trees, od__law_bent_trees, .func (PySem.W.fnOf "_law_bent_trees" "_law_bent_trees" (defArgs s__law_bent_trees) (defBody s__law_bent_trees) (defScope s__law_bent_trees) .none kV__law_bent_trees dc__law_bent_trees pm__law_bent_trees an__law_bent_trees cd__law_bent_trees ct__law_bent_trees), sl__law_bent_trees⟩)
    (c__law_bent_trees : PySem.W.codeIn K cd__law_bent_trees "_law_bent_trees" = true)
    (k__law_bent_trees : PySem.W.keepIn K (.ref ff__law_bent_trees) = true)
    (a__law_drawn_bar : PySem.W.nsIn K mainGlobals "_law_drawn_bar" = some (some (.ref ff__law_drawn_bar)))
    (l__law_drawn_bar : K.lookup ff__law_drawn_bar = some ⟨oc__law_drawn_bar, od__law_drawn_bar, .func (PySem.W.fnOf "_law_drawn_bar" "_law_drawn_bar" (defArgs s__law_drawn_bar) (defBody s__law_drawn_bar) (defScope s__law_drawn_bar) .none kV__law_drawn_bar dc__law_drawn_bar pm__law_drawn_bar an__law_drawn_bar cd__law_drawn_bar ct__law_drawn_bar), sl__law_drawn_bar⟩)
    (c__law_drawn_bar : PySem.W.codeIn K cd__law_drawn_bar "_law_drawn_bar" = true)
    (k__law_drawn_bar : PySem.W.keepIn K (.ref ff__law_drawn_bar) = true)
    (a_law : PySem.W.nsIn K mainGlobals "law" = some (some (.ref ff_law)))
    (l_law : K.lookup ff_law = some ⟨oc_law, od_law, .func (PySem.W.fnOf "law" "law" (defArgs s_law) (defBody s_law) (defScope s_law) .none kV_law dc_law pm_law an_law cd_law ct_law), sl_law⟩)
    (c_law : PySem.W.codeIn K cd_law "law" = true)
    (k_law : PySem.W.keepIn K (.ref ff_law) = true)
    (pg_Web : PySem.W.plainGet K C_Web Str.empty = true)
    (hd_Web : PySem.W.hasDictIn K C_Web = true)
    (po_Web : PySem.W.plainOver K C_Web = true)
    (sa_Web : PySem.W.findIn K (.ref C_Web) "__setattr__" = some (some (.builtin "object.__setattr__")))
    (mk_Web : PySem.W.makesIn K C_Web = true)
    (kc_Web : PySem.W.keepIn K (.ref C_Web) = true)
    (ha_Web : PySem.W.findIn K (.ref C_Web) "__class__" = some (some (.builtin "object.__class__")))
    (hn_Web : PySem.W.specialIn K (.builtin "object.__class__") "__get__" = some (some (.builtin "getset_descriptor.__get__")))
    (ht_Web : PySem.W.takesIn K (.builtin "object.__class__") = some true)
    (hm_Web : PySem.W.mroIn K C_Web (.type "object") = some true)
    (hne_Web : PySem.W.findIn K (.ref C_Web) "__ne__" = some (some (.builtin "object.__ne__")))
    (wi_Web : PySem.W.mroIn K C_Web (.type "int") = some false)
    (wb_Web : PySem.W.mroIn K C_Web (.type "bool") = some false)
    (wt_Web : PySem.W.mroIn K C_Web (.type "tuple") = some false)
    (ws_Web : PySem.W.mroIn K C_Web (.type "str") = some false)
    (na_Web_machines : PySem.W.findIn K (.ref C_Web) "machines" = some none)
    (na_Web_wires : PySem.W.findIn K (.ref C_Web) "wires" = some none)
    (pg_Record : PySem.W.plainGet K C_Record Str.empty = true)
    (hd_Record : PySem.W.hasDictIn K C_Record = true)
    (po_Record : PySem.W.plainOver K C_Record = true)
    (sa_Record : PySem.W.findIn K (.ref C_Record) "__setattr__" = some (some (.builtin "object.__setattr__")))
    (mk_Record : PySem.W.makesIn K C_Record = true)
    (kc_Record : PySem.W.keepIn K (.ref C_Record) = true)
    (ha_Record : PySem.W.findIn K (.ref C_Record) "__class__" = some (some (.builtin "object.__class__")))
    (hn_Record : PySem.W.specialIn K (.builtin "object.__class__") "__get__" = some (some (.builtin "getset_descriptor.__get__")))
    (ht_Record : PySem.W.takesIn K (.builtin "object.__class__") = some true)
    (hm_Record : PySem.W.mroIn K C_Record (.type "object") = some true)
    (hne_Record : PySem.W.findIn K (.ref C_Record) "__ne__" = some (some (.builtin "object.__ne__")))
    (wi_Record : PySem.W.mroIn K C_Record (.type "int") = some false)
    (wb_Record : PySem.W.mroIn K C_Record (.type "bool") = some false)
    (wt_Record : PySem.W.mroIn K C_Record (.type "tuple") = some false)
    (ws_Record : PySem.W.mroIn K C_Record (.type "str") = some false)
    (na_Record_writers : PySem.W.findIn K (.ref C_Record) "writers" = some none)
    (na_Record_diaries : PySem.W.findIn K (.ref C_Record) "diaries" = some none)
    (co_MOST_MACHINES : PySem.W.nsIn K mainGlobals "MOST_MACHINES" = some (some (.int 7 tk_MOST_MACHINES)))
    (co_MOST_PUTS : PySem.W.nsIn K mainGlobals "MOST_PUTS" = some (some (.int 30 tk_MOST_PUTS)))
    (z_isinstance : PySem.W.nsIn K mainGlobals "isinstance" = some none)
    (z_int : PySem.W.nsIn K mainGlobals "int" = some none)
    (z_bool : PySem.W.nsIn K mainGlobals "bool" = some none)
    (z_tuple : PySem.W.nsIn K mainGlobals "tuple" = some none)
    (z_len : PySem.W.nsIn K mainGlobals "len" = some none)
    (z_all : PySem.W.nsIn K mainGlobals "all" = some none)
    (z_zip : PySem.W.nsIn K mainGlobals "zip" = some none)
    (z_enumerate : PySem.W.nsIn K mainGlobals "enumerate" = some none)
    (z_set : PySem.W.nsIn K mainGlobals "set" = some none)
    (z_any : PySem.W.nsIn K mainGlobals "any" = some none)
    (z_range : PySem.W.nsIn K mainGlobals "range" = some none)
    (z_abs : PySem.W.nsIn K mainGlobals "abs" = some none)
    (z_min : PySem.W.nsIn K mainGlobals "min" = some none)
    (z_dict : PySem.W.nsIn K mainGlobals "dict" = some none)
    (z_list : PySem.W.nsIn K mainGlobals "list" = some none)
    (z_max : PySem.W.nsIn K mainGlobals "max" = some none)
    (z_sorted : PySem.W.nsIn K mainGlobals "sorted" = some none)
    : ∃ fd : FuncData, (∀ (s : Shared) (v : Value), BindsTo s fd ⟨[v], []⟩ [("_law_script", v)]) ∧ ∀ base : Heap, K.In base → base.Ns mainGlobals mg → FnOk l.prog w K mg base CX0 10 fa fd ["_law_script"] (spLaw K) := by
  have e := hfa.symm.trans (PySem.W.mg_of X G a_law)
  cases e
  have F_is_integer := fun_mk (st := s_is_integer) l_is_integer c_is_integer k_is_integer
  have b_is_integer := F_is_integer.binds (ps := P_is_integer) fun _ _ _ _ _ _ us hl => match us, hl with | [_], _ => rfl
  have F_is_between := fun_mk (st := s_is_between) l_is_between c_is_between k_is_between
  have b_is_between := F_is_between.binds (ps := P_is_between) fun _ _ _ _ _ _ us hl => match us, hl with | [_, _, _], _ => rfl
  have F_is_below := fun_mk (st := s_is_below) l_is_below c_is_below k_is_below
  have b_is_below := F_is_below.binds (ps := P_is_below) fun _ _ _ _ _ _ us hl => match us, hl with | [_, _], _ => rfl
  have F_is_tuple_of := fun_mk (st := s_is_tuple_of) l_is_tuple_of c_is_tuple_of k_is_tuple_of
  have b_is_tuple_of := F_is_tuple_of.binds (ps := P_is_tuple_of) fun _ _ _ _ _ _ us hl => match us, hl with | [_, _, _], _ => rfl
  have F_are_below := fun_mk (st := s_are_below) l_are_below c_are_below k_are_below
  have b_are_below := F_are_below.binds (ps := P_are_below) fun _ _ _ _ _ _ us hl => match us, hl with | [_, _], _ => rfl
  have F_is_unlike_pair := fun_mk (st := s_is_unlike_pair) l_is_unlike_pair c_is_unlike_pair k_is_unlike_pair
  have b_is_unlike_pair := F_is_unlike_pair.binds (ps := P_is_unlike_pair) fun _ _ _ _ _ _ us hl => match us, hl with | [_, _], _ => rfl
  have F_are_ascending := fun_mk (st := s_are_ascending) l_are_ascending c_are_ascending k_are_ascending
  have b_are_ascending := F_are_ascending.binds (ps := P_are_ascending) fun _ _ _ _ _ _ us hl => match us, hl with | [_], _ => rfl
  have F_is_lot := fun_mk (st := s_is_lot) l_is_lot c_is_lot k_is_lot
  have b_is_lot := F_is_lot.binds (ps := P_is_lot) fun _ _ _ _ _ _ us hl => match us, hl with | [_, _], _ => rfl
  have F_Web_init := fun_mk (st := s_Web_init) l_Web_init c_Web_init k_Web_init
  have b_Web_init := F_Web_init.binds (ps := P_Web_init) fun _ _ _ _ _ _ us hl => match us, hl with | [_, _, _], _ => rfl
  have F_Web_eq := fun_mk (st := s_Web_eq) l_Web_eq c_Web_eq k_Web_eq
  have b_Web_eq := F_Web_eq.binds (ps := P_Web_eq) fun _ _ _ _ _ _ us hl => match us, hl with | [_, _], _ => rfl
  have F_first_wrong_wire := fun_mk (st := s_first_wrong_wire) l_first_wrong_wire c_first_wrong_wire k_first_wrong_wire
  have b_first_wrong_wire := F_first_wrong_wire.binds (ps := P_first_wrong_wire) fun _ _ _ _ _ _ us hl => match us, hl with | [_, _], _ => rfl
  have F_ways_from := fun_mk (st := s_ways_from) l_ways_from c_ways_from k_ways_from
  have b_ways_from := F_ways_from.binds (ps := P_ways_from) fun _ _ _ _ _ _ us hl => match us, hl with | [_, _], _ => rfl
  have F_Record_init := fun_mk (st := s_Record_init) l_Record_init c_Record_init k_Record_init
  have b_Record_init := F_Record_init.binds (ps := P_Record_init) fun _ _ _ _ _ _ us hl => match us, hl with | [_, _, _], _ => rfl
  have F_Record_eq := fun_mk (st := s_Record_eq) l_Record_eq c_Record_eq k_Record_eq
  have b_Record_eq := F_Record_eq.binds (ps := P_Record_eq) fun _ _ _ _ _ _ us hl => match us, hl with | [_, _], _ => rfl
  have F_check_record := fun_mk (st := s_check_record) l_check_record c_check_record k_check_record
  have b_check_record := F_check_record.binds (ps := P_check_record) fun _ _ _ _ _ _ us hl => match us, hl with | [_, _], _ => rfl
  have F_is_diary := fun_mk (st := s_is_diary) l_is_diary c_is_diary k_is_diary
  have b_is_diary := F_is_diary.binds (ps := P_is_diary) fun _ _ _ _ _ _ us hl => match us, hl with | [_, _], _ => rfl
  have F_check_machines := fun_mk (st := s_check_machines) l_check_machines c_check_machines k_check_machines
  have b_check_machines := F_check_machines.binds (ps := P_check_machines) fun _ _ _ _ _ _ us hl => match us, hl with | [_, _], _ => rfl
  have F_check_put := fun_mk (st := s_check_put) l_check_put c_check_put k_check_put
  have b_check_put := F_check_put.binds (ps := P_check_put) fun _ _ _ _ _ _ us hl => match us, hl with | [_, _], _ => rfl
  have F_places_in := fun_mk (st := s_places_in) l_places_in c_places_in k_places_in
  have b_places_in := F_places_in.binds (ps := P_places_in) fun _ _ _ _ _ _ us hl => match us, hl with | [_], _ => rfl
  have F_grown_over := fun_mk (st := s_grown_over) l_grown_over c_grown_over k_grown_over
  have b_grown_over := F_grown_over.binds (ps := P_grown_over) fun _ _ _ _ _ _ us hl => match us, hl with | [_, _], _ => rfl
  have F_wires_by_put := fun_mk (st := s_wires_by_put) l_wires_by_put c_wires_by_put k_wires_by_put
  have b_wires_by_put := F_wires_by_put.binds (ps := P_wires_by_put) fun _ _ _ _ _ _ us hl => match us, hl with | [_, _], _ => rfl
  have F_holders_by_put := fun_mk (st := s_holders_by_put) l_holders_by_put c_holders_by_put k_holders_by_put
  have b_holders_by_put := F_holders_by_put.binds (ps := P_holders_by_put) fun _ _ _ _ _ _ us hl => match us, hl with | [_], _ => rfl
  have F_growing := fun_mk (st := s_growing) l_growing c_growing k_growing
  have b_growing := F_growing.binds (ps := P_growing) fun _ _ _ _ _ _ us hl => match us, hl with | [_, _, _], _ => rfl
  have F_bar := fun_mk (st := s_bar) l_bar c_bar k_bar
  have b_bar := F_bar.binds (ps := P_bar) fun _ _ _ _ _ _ us hl => match us, hl with | [_, _], _ => rfl
  have F_is_bar := fun_mk (st := s_is_bar) l_is_bar c_is_bar k_is_bar
  have b_is_bar := F_is_bar.binds (ps := P_is_bar) fun _ _ _ _ _ _ us hl => match us, hl with | [_, _, _], _ => rfl
  have F_is_made := fun_mk (st := s_is_made) l_is_made c_is_made k_is_made
  have b_is_made := F_is_made.binds (ps := P_is_made) fun _ _ _ _ _ _ us hl => match us, hl with | [_, _], _ => rfl
  have F_trees := fun_mk (st := s_trees) l_trees c_trees k_trees
  have b_trees := F_trees.binds (ps := P_trees) fun _ _ _ _ _ _ us hl => match us, hl with | [_, _], _ => rfl
  have F_is_trees := fun_mk (st := s_is_trees) l_is_trees c_is_trees k_is_trees
  have b_is_trees := F_is_trees.binds (ps := P_is_trees) fun _ _ _ _ _ _ us hl => match us, hl with | [_, _, _], _ => rfl
  have F_is_tree := fun_mk (st := s_is_tree) l_is_tree c_is_tree k_is_tree
  have b_is_tree := F_is_tree.binds (ps := P_is_tree) fun _ _ _ _ _ _ us hl => match us, hl with | [_, _, _, _, _], _ => rfl
  have F__law_hand := fun_mk (st := s__law_hand) l__law_hand c__law_hand k__law_hand
  have b__law_hand := F__law_hand.binds (ps := P__law_hand) fun _ _ _ _ _ _ us hl => match us, hl with | [_], _ => rfl
  have F__law_draw := fun_mk (st := s__law_draw) l__law_draw c__law_draw k__law_draw
  have b__law_draw := F__law_draw.binds (ps := P__law_draw) fun _ _ _ _ _ _ us hl => match us, hl with | [_, _], _ => rfl
  have F__law_flag := fun_mk (st := s__law_flag) l__law_flag c__law_flag k__law_flag
  have b__law_flag := F__law_flag.binds (ps := P__law_flag) fun _ _ _ _ _ _ us hl => match us, hl with | [_, _], _ => rfl
  have F__law_deep := fun_mk (st := s__law_deep) l__law_deep c__law_deep k__law_deep
  have b__law_deep := F__law_deep.binds (ps := P__law_deep) fun _ _ _ _ _ _ us hl => match us, hl with | [_], _ => rfl
  have F__law_web := fun_mk (st := s__law_web) l__law_web c__law_web k__law_web
  have b__law_web := F__law_web.binds (ps := P__law_web) fun _ _ _ _ _ _ us hl => match us, hl with | [_, _], _ => rfl
  have F__law_ran := fun_mk (st := s__law_ran) l__law_ran c__law_ran k__law_ran
  have b__law_ran := F__law_ran.binds (ps := P__law_ran) fun _ _ _ _ _ _ us hl => match us, hl with | [_, _, _, _, _], _ => rfl
  have F__law_bent := fun_mk (st := s__law_bent) l__law_bent c__law_bent k__law_bent
  have b__law_bent := F__law_bent.binds (ps := P__law_bent) fun _ _ _ _ _ _ us hl => match us, hl with | [_, _, _], _ => rfl
  have F__law_parts := fun_mk (st := s__law_parts) l__law_parts c__law_parts k__law_parts
  have b__law_parts := F__law_parts.binds (ps := P__law_parts) fun _ _ _ _ _ _ us hl => match us, hl with | [_, _, _], _ => rfl
  have F__law_grow := fun_mk (st := s__law_grow) l__law_grow c__law_grow k__law_grow
  have b__law_grow := F__law_grow.binds (ps := P__law_grow) fun _ _ _ _ _ _ us hl => match us, hl with | [_, _, _], _ => rfl
  have F__law_is_whole := fun_mk (st := s__law_is_whole) l__law_is_whole c__law_is_whole k__law_is_whole
  have b__law_is_whole := F__law_is_whole.binds (ps := P__law_is_whole) fun _ _ _ _ _ _ us hl => match us, hl with | [_, _], _ => rfl
  have F__law_is_tree := fun_mk (st := s__law_is_tree) l__law_is_tree c__law_is_tree k__law_is_tree
  have b__law_is_tree := F__law_is_tree.binds (ps := P__law_is_tree) fun _ _ _ _ _ _ us hl => match us, hl with | [_, _, _, _, _], _ => rfl
  have F__law_bars := fun_mk (st := s__law_bars) l__law_bars c__law_bars k__law_bars
  have b__law_bars := F__law_bars.binds (ps := P__law_bars) fun _ _ _ _ _ _ us hl => match us, hl with | [_, _, _, _], _ => rfl
  have F__law_odd := fun_mk (st := s__law_odd) l__law_odd c__law_odd k__law_odd
  have b__law_odd := F__law_odd.binds (ps := P__law_odd) fun _ _ _ _ _ _ us hl => match us, hl with | [_, _, _], _ => rfl
  have F__law_drawn_trees := fun_mk (st := s__law_drawn_trees) l__law_drawn_trees c__law_drawn_trees k__law_drawn_trees
  have b__law_drawn_trees := F__law_drawn_trees.binds (ps := P__law_drawn_trees) fun _ _ _ _ _ _ us hl => match us, hl with | [_, _, _, _], _ => rfl
  have F__law_bent_trees := fun_mk (st := s__law_bent_trees) l__law_bent_trees c__law_bent_trees k__law_bent_trees
  have b__law_bent_trees := F__law_bent_trees.binds (ps := P__law_bent_trees) fun _ _ _ _ _ _ us hl => match us, hl with | [_, _, _], _ => rfl
  have F__law_drawn_bar := fun_mk (st := s__law_drawn_bar) l__law_drawn_bar c__law_drawn_bar k__law_drawn_bar
  have b__law_drawn_bar := F__law_drawn_bar.binds (ps := P__law_drawn_bar) fun _ _ _ _ _ _ us hl => match us, hl with | [_, _, _, _], _ => rfl
  have F_law := fun_mk (st := s_law) l_law c_law k_law
  have b_law := F_law.binds (ps := P_law) fun _ _ _ _ _ _ us hl => match us, hl with | [_], _ => rfl
  have T : Txt K mg ⟨ff_is_integer, _, ff_is_between, _, ff_is_below, _, ff_is_tuple_of, _, ff_are_below, _, ff_is_unlike_pair, _, ff_are_ascending, _, ff_is_lot, _, ff_Web_init, _, ff_Web_eq, _, ff_first_wrong_wire, _, ff_ways_from, _, ff_Record_init, _, ff_Record_eq, _, ff_check_record, _, ff_is_diary, _, ff_check_machines, _, ff_check_put, _, ff_places_in, _, ff_grown_over, _, ff_wires_by_put, _, ff_holders_by_put, _, ff_growing, _, ff_bar, _, ff_is_bar, _, ff_is_made, _, ff_trees, _, ff_is_trees, _, ff_is_tree, _, ff__law_hand, _, ff__law_draw, _, ff__law_flag, _, ff__law_deep, _, ff__law_web, _, ff__law_ran, _, ff__law_bent, _, ff__law_parts, _, ff__law_grow, _, ff__law_is_whole, _, ff__law_is_tree, _, ff__law_bars, _, ff__law_odd, _, ff__law_drawn_trees, _, ff__law_bent_trees, _, ff__law_drawn_bar, _, fa, _, C_Web, C_Record, tk_MOST_MACHINES, tk_MOST_PUTS⟩ := ⟨F_is_integer,
    b_is_integer,
    PySem.W.mg_of X G a_is_integer,
    F_is_between,
    b_is_between,
    PySem.W.mg_of X G a_is_between,
    F_is_below,
    b_is_below,
    PySem.W.mg_of X G a_is_below,
    F_is_tuple_of,
    b_is_tuple_of,
    PySem.W.mg_of X G a_is_tuple_of,
    F_are_below,
    b_are_below,
    PySem.W.mg_of X G a_are_below,
    F_is_unlike_pair,
    b_is_unlike_pair,
    PySem.W.mg_of X G a_is_unlike_pair,
    F_are_ascending,
    b_are_ascending,
    PySem.W.mg_of X G a_are_ascending,
    F_is_lot,
    b_is_lot,
    PySem.W.mg_of X G a_is_lot,
    F_Web_init,
    b_Web_init,
    F_Web_eq,
    b_Web_eq,
    F_first_wrong_wire,
    b_first_wrong_wire,
    PySem.W.mg_of X G a_first_wrong_wire,
    F_ways_from,
    b_ways_from,
    PySem.W.mg_of X G a_ways_from,
    F_Record_init,
    b_Record_init,
    F_Record_eq,
    b_Record_eq,
    F_check_record,
    b_check_record,
    PySem.W.mg_of X G a_check_record,
    F_is_diary,
    b_is_diary,
    PySem.W.mg_of X G a_is_diary,
    F_check_machines,
    b_check_machines,
    PySem.W.mg_of X G a_check_machines,
    F_check_put,
    b_check_put,
    PySem.W.mg_of X G a_check_put,
    F_places_in,
    b_places_in,
    PySem.W.mg_of X G a_places_in,
    F_grown_over,
    b_grown_over,
    PySem.W.mg_of X G a_grown_over,
    F_wires_by_put,
    b_wires_by_put,
    PySem.W.mg_of X G a_wires_by_put,
    F_holders_by_put,
    b_holders_by_put,
    PySem.W.mg_of X G a_holders_by_put,
    F_growing,
    b_growing,
    PySem.W.mg_of X G a_growing,
    F_bar,
    b_bar,
    PySem.W.mg_of X G a_bar,
    F_is_bar,
    b_is_bar,
    PySem.W.mg_of X G a_is_bar,
    F_is_made,
    b_is_made,
    PySem.W.mg_of X G a_is_made,
    F_trees,
    b_trees,
    PySem.W.mg_of X G a_trees,
    F_is_trees,
    b_is_trees,
    PySem.W.mg_of X G a_is_trees,
    F_is_tree,
    b_is_tree,
    PySem.W.mg_of X G a_is_tree,
    F__law_hand,
    b__law_hand,
    PySem.W.mg_of X G a__law_hand,
    F__law_draw,
    b__law_draw,
    PySem.W.mg_of X G a__law_draw,
    F__law_flag,
    b__law_flag,
    PySem.W.mg_of X G a__law_flag,
    F__law_deep,
    b__law_deep,
    PySem.W.mg_of X G a__law_deep,
    F__law_web,
    b__law_web,
    PySem.W.mg_of X G a__law_web,
    F__law_ran,
    b__law_ran,
    PySem.W.mg_of X G a__law_ran,
    F__law_bent,
    b__law_bent,
    PySem.W.mg_of X G a__law_bent,
    F__law_parts,
    b__law_parts,
    PySem.W.mg_of X G a__law_parts,
    F__law_grow,
    b__law_grow,
    PySem.W.mg_of X G a__law_grow,
    F__law_is_whole,
    b__law_is_whole,
    PySem.W.mg_of X G a__law_is_whole,
    F__law_is_tree,
    b__law_is_tree,
    PySem.W.mg_of X G a__law_is_tree,
    F__law_bars,
    b__law_bars,
    PySem.W.mg_of X G a__law_bars,
    F__law_odd,
    b__law_odd,
    PySem.W.mg_of X G a__law_odd,
    F__law_drawn_trees,
    b__law_drawn_trees,
    PySem.W.mg_of X G a__law_drawn_trees,
    F__law_bent_trees,
    b__law_bent_trees,
    PySem.W.mg_of X G a__law_bent_trees,
    F__law_drawn_bar,
    b__law_drawn_bar,
    PySem.W.mg_of X G a__law_drawn_bar,
    F_law,
    b_law,
    PySem.W.mg_of X G a_law,
    PySem.W.mg_of X G aC_Web,
    PySem.W.mg_of X G aC_Record,
    ⟨pg_Web, hd_Web, po_Web, sa_Web⟩,
    ⟨mk_Web, a_Web_init, i_Web_init, kc_Web⟩,
    ⟨⟨pg_Web, hd_Web, po_Web, sa_Web⟩, ha_Web, hn_Web, ht_Web, hm_Web, (by unfold PySem.W.kitOne; simp)⟩,
    a_Web_eq,
    i_Web_eq,
    hne_Web,
    wi_Web,
    wb_Web,
    wt_Web,
    ws_Web,
    na_Web_machines,
    na_Web_wires,
    ⟨pg_Record, hd_Record, po_Record, sa_Record⟩,
    ⟨mk_Record, a_Record_init, i_Record_init, kc_Record⟩,
    ⟨⟨pg_Record, hd_Record, po_Record, sa_Record⟩, ha_Record, hn_Record, ht_Record, hm_Record, (by unfold PySem.W.kitOne; simp)⟩,
    a_Record_eq,
    i_Record_eq,
    hne_Record,
    wi_Record,
    wb_Record,
    wt_Record,
    ws_Record,
    na_Record_writers,
    na_Record_diaries,
    PySem.W.mg_of X G co_MOST_MACHINES,
    PySem.W.mg_of X G co_MOST_PUTS,
    PySem.W.mg_none_of X G z_isinstance,
    PySem.W.mg_none_of X G z_int,
    PySem.W.mg_none_of X G z_bool,
    PySem.W.mg_none_of X G z_tuple,
    PySem.W.mg_none_of X G z_len,
    PySem.W.mg_none_of X G z_all,
    PySem.W.mg_none_of X G z_zip,
    PySem.W.mg_none_of X G z_enumerate,
    PySem.W.mg_none_of X G z_set,
    PySem.W.mg_none_of X G z_any,
    PySem.W.mg_none_of X G z_range,
    PySem.W.mg_none_of X G z_abs,
    PySem.W.mg_none_of X G z_min,
    PySem.W.mg_none_of X G z_dict,
    PySem.W.mg_none_of X G z_list,
    PySem.W.mg_none_of X G z_max,
    PySem.W.mg_none_of X G z_sorted⟩
  exact ⟨PySem.W.fnOf "law" "law" (defArgs s_law) (defBody s_law) (defScope s_law) .none kV_law dc_law pm_law an_law cd_law ct_law, fun s v => .of_eq rfl, fun base _ _ => ok_law T⟩
theorem walk {l : PySem.W.OpenLaw} {q : Program} {loose : List Str} {XP : (Str → Option Value) → Heap → Prop} {YP : World → Heap → Prop} {d : DefRec} {K : Params → PySem.W.Frag} (hn : l.most = some 63) (hdf : d.params.defaults = [])
    (hY : ∀ (w : World) (h : Heap), YP w h → (K w.params).In h)
    (F : ∀ (w : World) (mg : Str → Option Value) (fa : Addr) (h : Heap), (K w.params).In h → h.Ns mainGlobals mg → mg d.name = some (.ref fa) →
      ∃ fd : FuncData, (∀ (s : Shared) (u : Value), BindsTo s fd ⟨[u], []⟩ [("_law_script", u)]) ∧ ∀ base : Heap, (K w.params).In base → base.Ns mainGlobals mg → FnOk l.prog w (K w.params) mg base CX0 10 fa fd ["_law_script"] (spLaw (K w.params))) :
    PySem.W.WalkO q loose XP YP l.row.toRowW d [] (fun f vs => PySem.call f vs) :=
  L2.walk_of (n := 63) (k := 10) (x := "_law_script") (CX := fun _ => CX0) (sp := fun w => spLaw (K w.params)) hn (by decide) hdf ⟨rfl, by decide, by decide⟩ hY F (fun _ _ a ns hl _ hS => ⟨a, ns, rfl, hS, hl, fun _ => rfl⟩) fun _ _ _ _ _ z => z
end Mine
/-! ## KZ -/
open PySem PySem.W PyProof.Rows in
set_option maxRecDepth 100000 in
set_option maxHeartbeats 0 in
theorem PySem.Challenge.cw_growalong_k10_trees_and_bars_judged_holds : PySem.Challenge.rw_growalong_k10_trees_and_bars_judged.Holds := by
  w_on; o_law; k_head; (case hw => w_witness2)
  k_fill
  refine Mine.walk (l := PySem.Challenge.rw_growalong_k10_trees_and_bars_judged) rfl rfl (fun w h Y => PySem.W.kIn_of Y) ?F
  case F =>
    intro w mg fa h KX G hmg
    refine' Mine.all_mk KX G hmg ?aC_Web ?aC_Record ?a_is_integer ?l_is_integer ?c_is_integer ?k_is_integer ?a_is_between ?l_is_between ?c_is_between ?k_is_between ?a_is_below ?l_is_below ?c_is_below ?k_is_below ?a_is_tuple_of ?l_is_tuple_of ?c_is_tuple_of ?k_is_tuple_of ?a_are_below ?l_are_below ?c_are_below ?k_are_below ?a_is_unlike_pair ?l_is_unlike_pair ?c_is_unlike_pair ?k_is_unlike_pair ?a_are_ascending ?l_are_ascending ?c_are_ascending ?k_are_ascending ?a_is_lot ?l_is_lot ?c_is_lot ?k_is_lot ?a_Web_init ?i_Web_init ?l_Web_init ?c_Web_init ?k_Web_init ?a_Web_eq ?i_Web_eq ?l_Web_eq ?c_Web_eq ?k_Web_eq ?a_first_wrong_wire ?l_first_wrong_wire ?c_first_wrong_wire ?k_first_wrong_wire ?a_ways_from ?l_ways_from ?c_ways_from ?k_ways_from ?a_Record_init ?i_Record_init ?l_Record_init ?c_Record_init ?k_Record_init ?a_Record_eq ?i_Record_eq ?l_Record_eq ?c_Record_eq ?k_Record_eq ?a_check_record ?l_check_record ?c_check_record ?k_check_record ?a_is_diary ?l_is_diary ?c_is_diary ?k_is_diary ?a_check_machines ?l_check_machines ?c_check_machines ?k_check_machines ?a_check_put ?l_check_put ?c_check_put ?k_check_put ?a_places_in ?l_places_in ?c_places_in ?k_places_in ?a_grown_over ?l_grown_over ?c_grown_over ?k_grown_over ?a_wires_by_put ?l_wires_by_put ?c_wires_by_put ?k_wires_by_put ?a_holders_by_put ?l_holders_by_put ?c_holders_by_put ?k_holders_by_put ?a_growing ?l_growing ?c_growing ?k_growing ?a_bar ?l_bar ?c_bar ?k_bar ?a_is_bar ?l_is_bar ?c_is_bar ?k_is_bar ?a_is_made ?l_is_made ?c_is_made ?k_is_made ?a_trees ?l_trees ?c_trees ?k_trees ?a_is_trees ?l_is_trees ?c_is_trees ?k_is_trees ?a_is_tree ?l_is_tree ?c_is_tree ?k_is_tree ?a__law_hand ?l__law_hand ?c__law_hand ?k__law_hand ?a__law_draw ?l__law_draw ?c__law_draw ?k__law_draw ?a__law_flag ?l__law_flag ?c__law_flag ?k__law_flag ?a__law_deep ?l__law_deep ?c__law_deep ?k__law_deep ?a__law_web ?l__law_web ?c__law_web ?k__law_web ?a__law_ran ?l__law_ran ?c__law_ran ?k__law_ran ?a__law_bent ?l__law_bent ?c__law_bent ?k__law_bent ?a__law_parts ?l__law_parts ?c__law_parts ?k__law_parts ?a__law_grow ?l__law_grow ?c__law_grow ?k__law_grow ?a__law_is_whole ?l__law_is_whole ?c__law_is_whole ?k__law_is_whole ?a__law_is_tree ?l__law_is_tree ?c__law_is_tree ?k__law_is_tree ?a__law_bars ?l__law_bars ?c__law_bars ?k__law_bars ?a__law_odd ?l__law_odd ?c__law_odd ?k__law_odd ?a__law_drawn_trees ?l__law_drawn_trees ?c__law_drawn_trees ?k__law_drawn_trees ?a__law_bent_trees ?l__law_bent_trees ?c__law_bent_trees ?k__law_bent_trees ?a__law_drawn_bar ?l__law_drawn_bar ?c__law_drawn_bar ?k__law_drawn_bar ?a_law ?l_law ?c_law ?k_law ?pg_Web ?hd_Web ?po_Web ?sa_Web ?mk_Web ?kc_Web ?ha_Web ?hn_Web ?ht_Web ?hm_Web ?hne_Web ?wi_Web ?wb_Web ?wt_Web ?ws_Web ?na_Web_machines ?na_Web_wires ?pg_Record ?hd_Record ?po_Record ?sa_Record ?mk_Record ?kc_Record ?ha_Record ?hn_Record ?ht_Record ?hm_Record ?hne_Record ?wi_Record ?wb_Record ?wt_Record ?ws_Record ?na_Record_writers ?na_Record_diaries ?co_MOST_MACHINES ?co_MOST_PUTS ?z_isinstance ?z_int ?z_bool ?z_tuple ?z_len ?z_all ?z_zip ?z_enumerate ?z_set ?z_any ?z_range ?z_abs ?z_min ?z_dict ?z_list ?z_max ?z_sorted
    (case aC_Web => k_is)
    (case aC_Record => k_is)
    (case a_is_integer => k_is)
    (case l_is_integer => k_is)
    (case c_is_integer => k_is)
    (case k_is_integer => k_is)
    (case a_is_between => k_is)
    (case l_is_between => k_is)
    (case c_is_between => k_is)
    (case k_is_between => k_is)
    (case a_is_below => k_is)
    (case l_is_below => k_is)
    (case c_is_below => k_is)
    (case k_is_below => k_is)
    (case a_is_tuple_of => k_is)
    (case l_is_tuple_of => k_is)
    (case c_is_tuple_of => k_is)
    (case k_is_tuple_of => k_is)
    (case a_are_below => k_is)
    (case l_are_below => k_is)
    (case c_are_below => k_is)
    (case k_are_below => k_is)
    (case a_is_unlike_pair => k_is)
    (case l_is_unlike_pair => k_is)
    (case c_is_unlike_pair => k_is)
    (case k_is_unlike_pair => k_is)
    (case a_are_ascending => k_is)
    (case l_are_ascending => k_is)
    (case c_are_ascending => k_is)
    (case k_are_ascending => k_is)
    (case a_is_lot => k_is)
    (case l_is_lot => k_is)
    (case c_is_lot => k_is)
    (case k_is_lot => k_is)
    (case a_Web_init => k_is)
    (case i_Web_init => k_is)
    (case l_Web_init => k_is)
    (case c_Web_init => k_is)
    (case k_Web_init => k_is)
    (case a_Web_eq => k_is)
    (case i_Web_eq => k_is)
    (case l_Web_eq => k_is)
    (case c_Web_eq => k_is)
    (case k_Web_eq => k_is)
    (case a_first_wrong_wire => k_is)
    (case l_first_wrong_wire => k_is)
    (case c_first_wrong_wire => k_is)
    (case k_first_wrong_wire => k_is)
    (case a_ways_from => k_is)
    (case l_ways_from => k_is)
    (case c_ways_from => k_is)
    (case k_ways_from => k_is)
    (case a_Record_init => k_is)
    (case i_Record_init => k_is)
    (case l_Record_init => k_is)
    (case c_Record_init => k_is)
    (case k_Record_init => k_is)
    (case a_Record_eq => k_is)
    (case i_Record_eq => k_is)
    (case l_Record_eq => k_is)
    (case c_Record_eq => k_is)
    (case k_Record_eq => k_is)
    (case a_check_record => k_is)
    (case l_check_record => k_is)
    (case c_check_record => k_is)
    (case k_check_record => k_is)
    (case a_is_diary => k_is)
    (case l_is_diary => k_is)
    (case c_is_diary => k_is)
    (case k_is_diary => k_is)
    (case a_check_machines => k_is)
    (case l_check_machines => k_is)
    (case c_check_machines => k_is)
    (case k_check_machines => k_is)
    (case a_check_put => k_is)
    (case l_check_put => k_is)
    (case c_check_put => k_is)
    (case k_check_put => k_is)
    (case a_places_in => k_is)
    (case l_places_in => k_is)
    (case c_places_in => k_is)
    (case k_places_in => k_is)
    (case a_grown_over => k_is)
    (case l_grown_over => k_is)
    (case c_grown_over => k_is)
    (case k_grown_over => k_is)
    (case a_wires_by_put => k_is)
    (case l_wires_by_put => k_is)
    (case c_wires_by_put => k_is)
    (case k_wires_by_put => k_is)
    (case a_holders_by_put => k_is)
    (case l_holders_by_put => k_is)
    (case c_holders_by_put => k_is)
    (case k_holders_by_put => k_is)
    (case a_growing => k_is)
    (case l_growing => k_is)
    (case c_growing => k_is)
    (case k_growing => k_is)
    (case a_bar => k_is)
    (case l_bar => k_is)
    (case c_bar => k_is)
    (case k_bar => k_is)
    (case a_is_bar => k_is)
    (case l_is_bar => k_is)
    (case c_is_bar => k_is)
    (case k_is_bar => k_is)
    (case a_is_made => k_is)
    (case l_is_made => k_is)
    (case c_is_made => k_is)
    (case k_is_made => k_is)
    (case a_trees => k_is)
    (case l_trees => k_is)
    (case c_trees => k_is)
    (case k_trees => k_is)
    (case a_is_trees => k_is)
    (case l_is_trees => k_is)
    (case c_is_trees => k_is)
    (case k_is_trees => k_is)
    (case a_is_tree => k_is)
    (case l_is_tree => k_is)
    (case c_is_tree => k_is)
    (case k_is_tree => k_is)
    (case a__law_hand => k_is)
    (case l__law_hand => k_is)
    (case c__law_hand => k_is)
    (case k__law_hand => k_is)
    (case a__law_draw => k_is)
    (case l__law_draw => k_is)
    (case c__law_draw => k_is)
    (case k__law_draw => k_is)
    (case a__law_flag => k_is)
    (case l__law_flag => k_is)
    (case c__law_flag => k_is)
    (case k__law_flag => k_is)
    (case a__law_deep => k_is)
    (case l__law_deep => k_is)
    (case c__law_deep => k_is)
    (case k__law_deep => k_is)
    (case a__law_web => k_is)
    (case l__law_web => k_is)
    (case c__law_web => k_is)
    (case k__law_web => k_is)
    (case a__law_ran => k_is)
    (case l__law_ran => k_is)
    (case c__law_ran => k_is)
    (case k__law_ran => k_is)
    (case a__law_bent => k_is)
    (case l__law_bent => k_is)
    (case c__law_bent => k_is)
    (case k__law_bent => k_is)
    (case a__law_parts => k_is)
    (case l__law_parts => k_is)
    (case c__law_parts => k_is)
    (case k__law_parts => k_is)
    (case a__law_grow => k_is)
    (case l__law_grow => k_is)
    (case c__law_grow => k_is)
    (case k__law_grow => k_is)
    (case a__law_is_whole => k_is)
    (case l__law_is_whole => k_is)
    (case c__law_is_whole => k_is)
    (case k__law_is_whole => k_is)
    (case a__law_is_tree => k_is)
    (case l__law_is_tree => k_is)
    (case c__law_is_tree => k_is)
    (case k__law_is_tree => k_is)
    (case a__law_bars => k_is)
    (case l__law_bars => k_is)
    (case c__law_bars => k_is)
    (case k__law_bars => k_is)
    (case a__law_odd => k_is)
    (case l__law_odd => k_is)
    (case c__law_odd => k_is)
    (case k__law_odd => k_is)
    (case a__law_drawn_trees => k_is)
    (case l__law_drawn_trees => k_is)
    (case c__law_drawn_trees => k_is)
    (case k__law_drawn_trees => k_is)
    (case a__law_bent_trees => k_is)
    (case l__law_bent_trees => k_is)
    (case c__law_bent_trees => k_is)
    (case k__law_bent_trees => k_is)
    (case a__law_drawn_bar => k_is)
    (case l__law_drawn_bar => k_is)
    (case c__law_drawn_bar => k_is)
    (case k__law_drawn_bar => k_is)
    (case a_law => k_is)
    (case l_law => k_is)
    (case c_law => k_is)
    (case k_law => k_is)
    (case pg_Web => k_is)
    (case hd_Web => k_is)
    (case po_Web => k_is)
    (case sa_Web => k_is)
    (case mk_Web => k_is)
    (case kc_Web => k_is)
    (case ha_Web => k_is)
    (case hn_Web => k_is)
    (case ht_Web => k_is)
    (case hm_Web => k_is)
    (case hne_Web => k_is)
    (case wi_Web => k_is)
    (case wb_Web => k_is)
    (case wt_Web => k_is)
    (case ws_Web => k_is)
    (case na_Web_machines => k_is)
    (case na_Web_wires => k_is)
    (case pg_Record => k_is)
    (case hd_Record => k_is)
    (case po_Record => k_is)
    (case sa_Record => k_is)
    (case mk_Record => k_is)
    (case kc_Record => k_is)
    (case ha_Record => k_is)
    (case hn_Record => k_is)
    (case ht_Record => k_is)
    (case hm_Record => k_is)
    (case hne_Record => k_is)
    (case wi_Record => k_is)
    (case wb_Record => k_is)
    (case wt_Record => k_is)
    (case ws_Record => k_is)
    (case na_Record_writers => k_is)
    (case na_Record_diaries => k_is)
    (case co_MOST_MACHINES => k_is)
    (case co_MOST_PUTS => k_is)
    (case z_isinstance => k_is)
    (case z_int => k_is)
    (case z_bool => k_is)
    (case z_tuple => k_is)
    (case z_len => k_is)
    (case z_all => k_is)
    (case z_zip => k_is)
    (case z_enumerate => k_is)
    (case z_set => k_is)
    (case z_any => k_is)
    (case z_range => k_is)
    (case z_abs => k_is)
    (case z_min => k_is)
    (case z_dict => k_is)
    (case z_list => k_is)
    (case z_max => k_is)
    (case z_sorted => k_is)

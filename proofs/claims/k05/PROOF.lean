import PyProof.Rows.All
import Wide.All
import OpenK.AllK
import Wide.FinOn
import HandS.ForMost
import HandS.Deep
import HandS.IsInst
import HandS.TupLe
import HandS.TupAny
import HandS.TupSets
import HandS.Style
import HandS.Zip
import HandS.More
import HandS.SortInts
import HandS.Codes
import HandS.Walk
import HandS.Iter
import KE.GoesEnum
import PyProof.Rows.SortShell
import HandS.Conv
import HandS.OwnEq
import PyProof.InstNe
import HandS.Strs
import PyProof.WalksMore
import KE.KDictPairs
import KE.KDictCopyH
import KE.KDictKeyed
import HandS.SetFor
import PySem.Challenge.RW_growalong_k05_whole_what_was_ahead
set_option Elab.async false
set_option linter.all false
set_option maxRecDepth 100000
set_option maxHeartbeats 4000000
/-! ## GA -/
namespace GA
open PySem L2

/-! ### heaps: what stays -/
/-- tuples stay -/
def Ts (H H' : Hp) : Prop := ∀ a xs, Rd H a (.tup xs) → Rd H' a (.tup xs)
/-- the hand of draws: a list at hd whose first item is the list of ints at c -/
def Hand (H : Hp) (hd c : Addr) : Prop := c ≠ hd ∧ (∃ ns : List Int, H c = some (.lst (ns.map V.int))) ∧ ∃ (i b m k : Int), H hd = some (.lst [.ref c, .int i, .int b, .int m, .int k]) ∧ 0 ≤ i
/-- all that stood stands, but for the hand's own list -/
structure G (o : Option (Addr × Addr)) (H H' : Hp) : Prop where
  keep : ∀ a u, (∀ p, o = some p → a ≠ p.1) → H a = some u → H' a = some u
  tups : Ts H H'
  hand : ∀ p, o = some p → Hand H p.1 p.2 → Hand H' p.1 p.2
theorem G.refl {o : Option (Addr × Addr)} {H : Hp} : G o H H := ⟨fun _ _ _ h => h, fun _ _ h => h, fun _ _ h => h⟩
theorem G.trans {o : Option (Addr × Addr)} {H H1 H2 : Hp} (a : G o H H1) (b : G o H1 H2) : G o H H2 :=
  ⟨fun x u n h => b.keep x u n (a.keep x u n h), fun x xs h => b.tups x xs (a.tups x xs h), fun p e h => b.hand p e (a.hand p e h)⟩
theorem G.all {H H' : Hp} (g : G none H H') (a : Addr) (u : HO) (h : H a = some u) : H' a = some u := g.keep a u (fun p e => nomatch e) h
theorem G.of_all {o : Option (Addr × Addr)} {H H' : Hp} (k : ∀ a u, H a = some u → H' a = some u) : G o H H' :=
  ⟨fun a u _ h => k a u h, fun a xs h => h.elim (fun h => .inl (k _ _ h)) fun ⟨ob, h⟩ => .inr ⟨ob, k _ _ h⟩,
    fun p _ ⟨n, ⟨ns, h1⟩, i, b, m, z, h2, h3⟩ => ⟨n, ⟨ns, k _ _ h1⟩, i, b, m, z, k _ _ h2, h3⟩⟩
theorem G.up {o : Option (Addr × Addr)} {H H' : Hp} (g : G none H H') : G o H H' := G.of_all g.all
theorem G.alloc {o : Option (Addr × Addr)} {H : Hp} {p : Addr} {u : HO} (h : H p = none) : G o H (upd H p u) := G.of_all fun a w e => by
  rw [upd_ne (ne_of_none e h)]; exact e
/-- a thing that H does not know is changed -/
theorem G.mut {o : Option (Addr × Addr)} {H H' : Hp} {l : Addr} {u : HO} (g : G o H H') (h : H l = none) (hh : ∀ p, o = some p → Hand H p.1 p.2) : G o H (upd H' l u) := by
  refine ⟨fun a w n e => ?_, fun a xs e => ?_, fun p e x => ?_⟩
  · rw [upd_ne (ne_of_none e h)]; exact g.keep a w n e
  · have ne : a ≠ l := by
      rcases e with e | ⟨ob, e⟩ <;> exact ne_of_none e h
    rcases g.tups a xs e with q | ⟨ob, q⟩
    · exact .inl (by rw [upd_ne ne]; exact q)
    · exact .inr ⟨ob, by rw [upd_ne ne]; exact q⟩
  · obtain ⟨n0, ⟨ns0, h0⟩, i0, b0, m0, k0, h1, _⟩ := hh p e
    obtain ⟨n, ⟨ns, h2⟩, i, b, m, k, h3, h4⟩ := g.hand p e x
    exact ⟨n, ⟨ns, by rw [upd_ne (ne_of_none h0 h)]; exact h2⟩, i, b, m, k, by rw [upd_ne (ne_of_none h1 h)]; exact h3, h4⟩
theorem Hand.ne {H : Hp} {hd c l : Addr} (x : Hand H hd c) (h : H l = none) : l ≠ hd := fun e => by
  obtain ⟨_, _, _, _, _, _, h1, _⟩ := x
  rw [← e, h] at h1; cases h1
/-- an address that is not the hand's -/
def Off (o : Option (Addr × Addr)) (a : Addr) : Prop := ∀ p, o = some p → a ≠ p.1
theorem off_none {a : Addr} : Off none a := fun _ e => nomatch e
theorem off_new {hd c l : Addr} {H : Hp} (x : Hand H hd c) (h : H l = none) : Off (some (hd, c)) l := fun p e => by cases e; exact x.ne h
theorem off_ins {hd c a C dx : Addr} {fs : List (Str × V)} {H : Hp} (x : Hand H hd c) (h : H a = some (.ins C dx fs)) : Off (some (hd, c)) a := fun p e => by
  cases e
  obtain ⟨_, _, _, _, _, _, h1, _⟩ := x
  exact ne_of h h1 (by intro z; cases z)
theorem off_dK {hd c a : Addr} {kvs : List (Key × V)} {H : Hp} (x : Hand H hd c) (h : H a = some (.dK kvs)) : Off (some (hd, c)) a := fun p e => by
  cases e
  obtain ⟨_, _, _, _, _, _, h1, _⟩ := x
  exact ne_of h h1 (by intro z; cases z)

/-! ### data without lists -/
mutual
def nl : PyData → Bool
  | .list _ => false
  | .dict _ => false
  | .tuple ds => nls ds
  | .none => true
  | .bool _ => true
  | .int _ => true
  | .str _ => true
def nls : List PyData → Bool
  | [] => true
  | d :: ds => nl d && nls ds
end
theorem nls_iff : ∀ {ds : List PyData}, nls ds = true ↔ ∀ d ∈ ds, nl d = true
  | [] => by simp [nls]
  | d :: ds => by simp [nls, nls_iff (ds := ds)]
section
variable {K : PySem.W.Frag} {H H' : Hp}
theorem sqT_t (t : Ts H H') {a : Addr} {xs : List V} (h : SqT K H a xs) : SqT K H' a xs := h.elim (fun h => .inl (t _ _ h)) .inr
mutual
theorem dp_t (t : Ts H H') : ∀ (d : PyData) (v : V), nl d = true → Dp K H v d → Dp K H' v d
  | .none, _, _, h => by cases h; exact .non
  | .bool b, _, _, h => by cases h; exact .bl b
  | .int i, _, _, h => by cases h; exact .int i
  | .str x, _, _, h => by cases h; exact .str x
  | .list ds, _, n, _ => by simp [nl] at n
  | .dict ds, _, n, _ => by simp [nl] at n
  | .tuple ds, _, n, h => by
    cases h with
    | tup hs ha => exact .tup (sqT_t t hs) (dpAll_t t ds _ (by simpa [nl] using n) ha)
theorem dpAll_t (t : Ts H H') : ∀ (ds : List PyData) (vs : List V), nls ds = true → DpAll K H vs ds → DpAll K H' vs ds
  | [], _, _, h => by cases h; exact .nil
  | d :: ds, _, n, h => by
    cases h with
    | cons h1 h2 =>
      have n' : nl d = true ∧ nls ds = true := by simpa [nls] using n
      exact .cons (dp_t t d _ n'.1 h1) (dpAll_t t ds _ n'.2 h2)
end
theorem DpAll.length : ∀ {vs : List V} {ds : List PyData}, DpAll K H vs ds → vs.length = ds.length
  | _, _, .nil => rfl
  | _, _, .cons _ t => by simp [DpAll.length t]
theorem DpAll.get : ∀ {vs : List V} {ds : List PyData} {i : Nat} {v : V}, DpAll K H vs ds → vs[i]? = some v → ∃ d, ds[i]? = some d ∧ Dp K H v d
  | _, _, _, _, .nil, e => by simp at e
  | _, _, 0, _, .cons h _, e => by simp at e; subst e; exact ⟨_, rfl, h⟩
  | _, _, i + 1, v, .cons _ t, e => by
    obtain ⟨d, h1, h2⟩ := DpAll.get (i := i) (v := v) t (by simpa using e)
    exact ⟨d, by simpa using h1, h2⟩
theorem DpAll.get' : ∀ {vs : List V} {ds : List PyData} {i : Nat} {d : PyData}, DpAll K H vs ds → ds[i]? = some d → ∃ v, vs[i]? = some v ∧ Dp K H v d
  | _, _, _, _, .nil, e => by simp at e
  | _, _, 0, _, .cons h _, e => by simp at e; subst e; exact ⟨_, rfl, h⟩
  | _, _, i + 1, d, .cons _ t, e => by
    obtain ⟨v, h1, h2⟩ := DpAll.get' (i := i) (d := d) t (by simpa using e)
    exact ⟨v, by simpa using h1, h2⟩
theorem DpAll.app : ∀ {vs ws : List V} {ds es : List PyData}, DpAll K H vs ds → DpAll K H ws es → DpAll K H (vs ++ ws) (ds ++ es)
  | _, _, _, _, .nil, h => h
  | _, _, _, _, .cons h t, h' => .cons h (DpAll.app t h')
theorem DpAll.one {v : V} {d : PyData} (h : Dp K H v d) : DpAll K H [v] [d] := .cons h .nil
theorem DpAll.ints : ∀ (ns : List Int), DpAll K H (ns.map V.int) (ns.map PyData.int)
  | [] => .nil
  | n :: ns => .cons (.int n) (DpAll.ints ns)
theorem DpAll.of_ints : ∀ {ns : List Int} {vs : List V}, DpAll K H vs (ns.map PyData.int) → vs = ns.map V.int
  | [], _, .nil => rfl
  | n :: ns, _, .cons h t => by cases h; rw [DpAll.of_ints t]; rfl
end
/-- a tuple of ints, a pair, a tuple of pairs -/
abbrev dI (ns : List Int) : PyData := .tuple (ns.map PyData.int)
abbrev dP (w : Int × Int) : PyData := .tuple [.int w.1, .int w.2]
abbrev dW (ws : List (Int × Int)) : PyData := .tuple (ws.map dP)
theorem nls_ints (ns : List Int) : nls (ns.map PyData.int) = true := by rw [nls_iff]; intro d h; simp only [List.mem_map] at h; obtain ⟨n, _, rfl⟩ := h; rfl
theorem nls_pairs (ws : List (Int × Int)) : nls (ws.map dP) = true := by rw [nls_iff]; intro d h; simp only [List.mem_map] at h; obtain ⟨n, _, rfl⟩ := h; rfl
theorem nl_dI (ns : List Int) : nl (dI ns) = true := by show nls _ = true; exact nls_ints ns
theorem nl_dP (w : Int × Int) : nl (dP w) = true := rfl
theorem nl_dW (ws : List (Int × Int)) : nl (dW ws) = true := by show nls _ = true; exact nls_pairs ws
section
variable {K : PySem.W.Frag} {H H' : Hp}
theorem dp_dI {v : V} {ns : List Int} (h : Dp K H v (dI ns)) : ∃ a, v = .ref a ∧ SqT K H a (ns.map V.int) := by
  cases h with
  | tup hs ha => exact ⟨_, rfl, by rw [← DpAll.of_ints ha]; exact hs⟩
theorem dp_dP {v : V} {w : Int × Int} (h : Dp K H v (dP w)) : ∃ a, v = .ref a ∧ SqT K H a [.int w.1, .int w.2] := by
  cases h with
  | tup hs ha =>
    cases ha with
    | cons h1 t =>
      cases t with
      | cons h2 t =>
        cases t; cases h1; cases h2
        exact ⟨_, rfl, hs⟩
theorem dp_tup {v : V} {ds : List PyData} (h : Dp K H v (.tuple ds)) : ∃ a vs, v = .ref a ∧ SqT K H a vs ∧ DpAll K H vs ds := by
  cases h with
  | tup hs ha => exact ⟨_, _, rfl, hs, ha⟩
theorem dp_ofI {a : Addr} {ns : List Int} (h : SqT K H a (ns.map V.int)) : Dp K H (.ref a) (dI ns) := .tup h (DpAll.ints ns)
theorem dp_ofP {a : Addr} {i j : Int} (h : SqT K H a [.int i, .int j]) : Dp K H (.ref a) (dP (i, j)) := .tup h (.cons (.int i) (.cons (.int j) .nil))
end

/-! ### steps: a reading by its first part -/
section
variable {K : PySem.W.Frag} {σ : L2.St} {H : Hp} {Q : VK} {QB : Bool → Hp → Prop} {D : Ends} {ta tb tc te : TE} {t u : TT} {ts tu : TS} {r r' : R2} {v x y : V} {i j : Int} {n : Nat} {b : Bool} {A B : Prop}
theorem w_var {i : Nat} (h : σ[i]? = some (some v)) (q : Q v H) : tVar i σ H Q := ⟨v, h, q⟩
theorem w_c (q : Q v H) : tC v σ H Q := q
theorem w_op (q : ta σ H fun x H1 => tb σ H1 fun y H2 => r x y H2 Q) : tOp r ta tb σ H Q := q
theorem w_un {f : V → Hp → VK → Prop} (q : ta σ H fun x H1 => f x H1 Q) : tUn f ta σ H Q := q
theorem w_seq (q : ts { D with nx := tu D } σ H) : tSeq ts tu D σ H := q
theorem w_next (q : D.nx σ H) : tNext D σ H := q
theorem w_break (q : D.bk σ H) : tBreak D σ H := q
theorem w_set {i : Nat} (q : te σ H fun x H1 => D.nx (σ.set i (some x)) H1) : tAsg te (gName i) D σ H := q
theorem w_asg {g : TG} (q : te σ H fun x H1 => g x σ H1 D.nx) : tAsg te g D σ H := q
theorem w_drop (q : te σ H fun _ H1 => D.nx σ H1) : tDrop te D σ H := q
theorem w_ret (q : te σ H D.rt) : tRet te D σ H := q
theorem w_retN (q : D.rt .non H) : tRetN D σ H := q
theorem w_ifS (q : t σ H fun b H1 => if b = true then ts D σ H1 else tu D σ H1) : tIfS t ts tu D σ H := q
theorem w_test (q : te σ H fun x H' => ∃ k, x = .bl k ∧ QB k H') : tTest te σ H QB := q
theorem w_tB (q : te σ H fun x H' => ∃ k, x = .bl k ∧ QB k H') : tB te σ H QB := q
theorem w_bl (q : QB b H) : ∃ k, V.bl b = .bl k ∧ QB k H := ⟨b, rfl, q⟩
theorem w_not (q : t σ H fun c H1 => QB (!c) H1) : tNot t σ H QB := q
theorem w_and (q : t σ H fun c H1 => if c = true then u σ H1 QB else QB false H1) : tAnd t u σ H QB := q
theorem w_or (q : t σ H fun c H1 => if c = true then QB true H1 else u σ H1 QB) : tOr t u σ H QB := q
theorem w_andV (q : ta σ H fun x H1 => ∃ c, x = .bl c ∧ if c = true then tb σ H1 Q else Q (.bl false) H1) : tAndV ta tb σ H Q := q
theorem w_orV (q : ta σ H fun x H1 => ∃ c, x = .bl c ∧ if c = true then Q (.bl true) H1 else tb σ H1 Q) : tOrV ta tb σ H Q := q
theorem w_notV (q : ta σ H fun x H1 => ∃ c, x = .bl c ∧ Q (.bl (!c)) H1) : tNotV ta σ H Q := q
theorem w_if (q : t σ H fun c H1 => if c = true then ta σ H1 Q else tb σ H1 Q) : tIf t ta tb σ H Q := q
theorem w_blc {F : Bool → Prop} (q : F b) : ∃ c, V.bl b = .bl c ∧ F c := ⟨b, rfl, q⟩
theorem w_nil {QA : List V → Hp → Prop} (q : QA [] H) : tNil σ H QA := q
theorem w_cons {tr : TA} {QA : List V → Hp → Prop} (q : te σ H fun x H1 => tr σ H1 fun xs H2 => QA (x :: xs) H2) : tCons te tr σ H QA := q
theorem w_CB {f : List V → Hp → VK → Prop} {tr : TA} (q : tr σ H fun vs H1 => f vs H1 Q) : tCB f tr σ H Q := q
theorem w_call {sp : Sp} {E : XK} {tr : TA} (q : tr σ H fun vs H1 => sp (vs ++ []) H1 Q E) : tCall sp [] E tr σ H Q := q
theorem w_tup {tr : TA} (q : tr σ H fun xs H1 => xs.length ≤ sizeLine ∧ ∀ p, H1 p = none → Q (.ref p) (upd H1 p (.tup xs))) : tTup tr σ H Q := q
theorem w_lst {tr : TA} (q : tr σ H fun xs H1 => xs.length ≤ sizeLine ∧ ∀ p, H1 p = none → Q (.ref p) (upd H1 p (.lst xs))) : tLst tr σ H Q := q
theorem w_chain (q : ta σ H fun x H1 => tb σ H1 fun y H2 => r x y H2 fun z H3 => ∃ k, z = .bl k ∧ (if k = true then tc σ H3 fun w' H4 => r' y w' H4 Q else Q (.bl false) H3)) : tChain r r' ta tb tc σ H Q := q
theorem w_sl {f : V → Option Int → Option Int → Hp → VK → Prop} {tl th : TO} (q : te σ H fun x H1 => tl σ H1 fun l H2 => th σ H2 fun u H3 => f x l u H3 Q) : tSl f te tl th σ H Q := q
theorem w_part {QO : Option Int → Hp → Prop} (q : te σ H fun x H1 => ∃ i, x = .int i ∧ QO (some i) H1) : tPart te σ H QO := q
theorem w_noPart {QO : Option Int → Hp → Prop} (q : QO none H) : tNoPart σ H QO := q
theorem w_inti {F : Int → Prop} (q : F i) : ∃ k, V.int i = .int k ∧ F k := ⟨i, rfl, q⟩
theorem w_fld {f : Str} (q : te σ H fun x H1 => ∃ a C dx fs v, x = .ref a ∧ H1 a = some (.ins C dx fs) ∧ Cls K C ∧ NoAttr K C f ∧ fs.lookup f = some v ∧ Q v H1) : tFld K te f σ H Q := q
theorem w_sfld {f : Str} (q : tb σ H fun y H1 => ta σ H1 fun x H2 => ∃ a C dx fs, x = .ref a ∧ H2 a = some (.ins C dx fs) ∧ Cls K C ∧ NoAttr K C f ∧ fs.length < 1000 ∧ D.nx σ (upd H2 a (.ins C dx (putF f y fs)))) : sFld K ta tb f D σ H := q
theorem w_gsub {to ti : TE} {s : TSet} {QS : L2.St → Hp → Prop} (q : to σ H fun o H1 => ti σ H1 fun i H2 => s o i v H2 fun H3 => QS σ H3) : gSub to ti s v σ H QS := q
theorem w_gname {i : Nat} {QS : L2.St → Hp → Prop} (q : QS (σ.set i (some v)) H) : gName i v σ H QS := q
/-! by values -/
theorem r_I0 {g : Int → Int → V} (q : Q (g i j) H) : rI0 g (.int i) (.int j) H Q := ⟨i, j, rfl, rfl, q⟩
theorem r_I {C : Int → Int → Prop} {g : Int → Int → V} (c : C i j) (q : Q (g i j) H) : rI C g (.int i) (.int j) H Q := ⟨i, j, rfl, rfl, c, q⟩
theorem r_U {g : Int → V} (q : Q (g i) H) : rU g (.int i) H Q := ⟨i, rfl, q⟩
theorem r_eqI (q : Q (.bl (decide (i = j))) H) : rEq (.int i) (.int j) H Q := ⟨rfl, by
  have e : decide (V.int i = V.int j) = decide (i = j) := by simp
  rw [e]; exact q⟩
theorem r_neI (q : Q (.bl (!decide (i = j))) H) : rNe (.int i) (.int j) H Q := ⟨rfl, by
  have e : decide (V.int i = V.int j) = decide (i = j) := by simp
  rw [e]; exact q⟩
theorem r_eqB {a b : Bool} (q : Q (.bl (decide (a = b))) H) : rEq (.bl a) (.bl b) H Q := ⟨rfl, by
  have e : decide (V.bl a = V.bl b) = decide (a = b) := by simp
  rw [e]; exact q⟩
theorem r_neB {a b : Bool} (q : Q (.bl (!decide (a = b))) H) : rNe (.bl a) (.bl b) H Q := ⟨rfl, by
  have e : decide (V.bl a = V.bl b) = decide (a = b) := by simp
  rw [e]; exact q⟩
theorem r_ixT {p : Addr} {xs : List V} (h : SqT K H p xs) (e : atI xs i = some v) (q : Q v H) : rIxT K (.ref p) (.int i) H Q := ⟨p, xs, i, v, rfl, rfl, h, e, q⟩
theorem r_ixL {p : Addr} {xs : List V} (h : SqL K H p xs) (e : atI xs i = some v) (q : Q v H) : rIxL K (.ref p) (.int i) H Q := ⟨p, xs, i, v, rfl, rfl, h, e, q⟩
theorem w_ite (h1 : b = true → A) (h2 : b = false → B) : if b = true then A else B := by
  cases b with
  | true => exact h1 rfl
  | false => exact h2 rfl
theorem w_newT {o : Option (Addr × Addr)} {xs : List V} (q : ∀ p H1, H p = none → G o H H1 → H1 p = some (.tup xs) → Q (.ref p) H1) (hz : xs.length ≤ 100000 := by simp) : xs.length ≤ sizeLine ∧ ∀ p, H p = none → Q (.ref p) (upd H p (.tup xs)) :=
  ⟨Nat.le_trans hz (by decide), fun p hp => q p _ hp (G.alloc hp) upd_same⟩
theorem w_newL {o : Option (Addr × Addr)} {xs : List V} (q : ∀ p H1, H p = none → G o H H1 → H1 p = some (.lst xs) → Q (.ref p) H1) (hz : xs.length ≤ 100000 := by simp) : xs.length ≤ sizeLine ∧ ∀ p, H p = none → Q (.ref p) (upd H p (.lst xs)) :=
  ⟨Nat.le_trans hz (by decide), fun p hp => q p _ hp (G.alloc hp) upd_same⟩
end
end GA
/-! ## GB -/
namespace PySem
open Sem (wp)
open AutoSeq1 (wpAny_loadPart')
theorem ga_enumerate_newT (l : Addr) (items : Array Value) :
    Meets (Builtin.«enumerate.__new__» ⟨[.type "enumerate", .ref l], []⟩) (fun _ R s => s.heap.IsTuple l items ∧
      R (.ok (.ret (.ref (s.heap.push { cls := .type "tuple_iterator", data := .fields #[.ref l, .int 0 0] }).objs.size)))
        { s with heap := (s.heap.push { cls := .type "tuple_iterator", data := .fields #[.ref l, .int 0 0] }).push { cls := .type "enumerate", data := .fields #[.none, .bool false, .ref s.heap.objs.size, rawInt 0, .none, .none] } }) :=
  .of_wp fun prog w A R s h => by
    obtain ⟨hp, g, d, tk, os⟩ := s; obtain ⟨hl, h⟩ := h
    have hsub := sub_enumerate
    have hL : Heap.IsTuple (Shared.heap ⟨hp, g, d, tk, os⟩) l items := hl
    obtain ⟨ob, hob, _⟩ := id hl
    wp_walk using wpAny_loadPart' hob
    refine wpAny_stack_any fun st => wpAny_pure ?_
    split
    · rename_i c _ _ _ _ _
      cases (c == Value.type "enumerate")
      · wp_walk using wpAny_loadPart' hob, wpAny_pyIter_tuple hL
        exact ⟨_, rfl, h⟩
      · wp_walk using wpAny_loadPart' hob, wpAny_pyIter_tuple hL
        exact ⟨_, rfl, h⟩
    · wp_walk using wpAny_loadPart' hob, wpAny_pyIter_tuple hL
      exact ⟨_, rfl, h⟩
theorem ga_enumerate_tuple {prog : Program} {w : World} {A : Around} {E : Value → Shared → Prop} {s : Shared} {l : Addr} {items : Array Value} {Q : Value → Shared → Prop} (hL : s.heap.IsTuple l items)
    (h : ∀ h', IsEnum h' (s.heap.objs.size + 1) s.heap.objs.size 0 .none → h'.IsTupleIter s.heap.objs.size l 0 → h'.objs.size = s.heap.objs.size + 2 →
      (∀ b o, s.heap.get? b = some o → h'.get? b = some o) → Q (.ref (s.heap.objs.size + 1)) { s with heap := h' }) :
    wpAny (model prog w) A (call (.type "enumerate") [.ref l]) Q E s := by
  refine callType_new F.called_enumerate (by decide) (F.typeCall_enumerate_1 _) (F.newCall_enumerate_1 _) (fun obj => F.args_object_init_2 obj _) F.entry_enumerate_new
    (ga_enumerate_newT l items) ⟨hL, ?_⟩
  have hz : (s.heap.push { cls := .type "tuple_iterator", data := .fields #[.ref l, .int 0 0] }).objs.size = s.heap.objs.size + 1 := Heap.size_push ..
  show _ ∧ _
  rw [hz]
  have he : IsEnum ((s.heap.push { cls := .type "tuple_iterator", data := .fields #[.ref l, .int 0 0] }).push
      { cls := .type "enumerate", data := .fields #[.none, .bool false, .ref s.heap.objs.size, rawInt 0, .none, .none] }) (s.heap.objs.size + 1) s.heap.objs.size 0 .none := by
    have := Heap.get?_push_size (s.heap.push { cls := .type "tuple_iterator", data := .fields #[.ref l, .int 0 0] })
      (o := { cls := .type "enumerate", data := .fields #[.none, .bool false, .ref s.heap.objs.size, rawInt 0, .none, .none] }) rfl
    rw [hz] at this; exact this
  refine ⟨⟨_, he, rfl⟩, h _ he ⟨_, Heap.get?_push_of_some _ (Heap.get?_push_size _ rfl), rfl, rfl⟩ (by rw [Heap.size_push, hz]) fun b o x => Heap.get?_push_of_some _ (Heap.get?_push_of_some _ x)⟩
end PySem
namespace GA
open PySem PySem.Spec PyProof.Rows L2
/-- enumerate over a tuple -/
def IteT (K : PySem.W.Frag) (a : Addr) : It :=
  ⟨fun i H => ∃ (xs : List V) (x : V), SqT K H a xs ∧ xs[i]? = some x, fun i H v H' => ∃ T x, v = .ref T ∧ H T = none ∧ H' = upd H T (.tup [.int (i : Nat), x]) ∧ ∀ xs, SqT K H a xs → xs[i]? = some x, fun i H => ∃ xs : List V, SqT K H a xs ∧ xs.length ≤ i⟩
theorem turn_enumT {P : Program} {w : World} {K : PySem.W.Frag} {elts : List Expr} {kk : Nat} {tpos : Pos} (a e it : Addr) (nai : a ≠ it) (nae : a ≠ e) :
    Turn P w K (.Tuple elts kk tpos) (IteT K a) [e, it] e (fun i h => (∃ old, IsEnum h e it ((i : Nat) : Int) old) ∧ h.IsTupleIter it a i ∧ e ≠ it) where
  mem := by simp
  obj := fun i h st b hb => by
    obtain ⟨⟨old, he⟩, ⟨o, ho, hc, hd⟩, _⟩ := st
    have e' : b = e ∨ b = it := by simpa using hb
    rcases e' with z | z
    · rw [z]; exact ⟨_, he, fun v q => nomatch q⟩
    · rw [z]; exact ⟨o, ho, fun v q => by rw [hd] at q; cases q⟩
  keep := fun i h h' st k => let ⟨⟨old, he⟩, hi, hne⟩ := st; ⟨⟨old, k e (by simp) _ he⟩, hi.at fun o q => k it (by simp) o q, hne⟩
  item := by
    intro X hP hw hK hc i pins s σ H E I hf st hg
    subst hP hw hK
    obtain ⟨⟨old, he⟩, hit, hne⟩ := st
    obtain ⟨xs, x, hq, hx⟩ := hg
    obtain ⟨its, rv, p, hz⟩ := I.tuple hq
    obtain ⟨u, hu, ru⟩ := rv.get hx
    have hel : e < s.heap.objs.size := Heap.lt_size he
    have hil : it < s.heap.objs.size := by obtain ⟨_, q, _⟩ := hit; exact Heap.lt_size q
    have hi : i < its.toArray.size := by
      have := (List.getElem?_eq_some_iff.mp hu).1
      simpa using this
    refine wpAny_pyNext_enum_itemD (Draws.tuple (prog := X.prog) (w := X.w) (A := X.A.in1) (I.ok.hd hc) it a nai its.toArray) he ⟨hit, p⟩ hi hne (by simp [hne, Ne.symm nae]) fun v h' tk hv ho hst hT hsz hk => ?_
    have ev : v = u := by
      have z : its.toArray[i]? = some u := by simpa using hu
      rw [z] at hv; exact (Option.some.inj hv).symm
    subst ev
    refine ⟨_, rfl, wpAny_letOwnedTupleGo_enum (s := { s with heap := h', toks := tk + 1 }) ho fun h'' he' sb => ?_⟩
    have hT2 : h''.get? s.heap.objs.size = some { cls := .type "tuple", data := .seq #[.int i tk, v] } := (sb.2 _ (Nat.ne_of_gt hel)).trans hT
    have new : ObjOk X.prog X.w (upd H s.heap.objs.size (.tup [.int (i : Nat), x])) h'' s.heap.objs.size (.tup [.int (i : Nat), x]) :=
      ⟨by show 2 ≤ sizeLine; decide, [.int i tk, v], .cons ⟨_, rfl⟩ (.cons ru .nil), ⟨_, hT2, rfl, _, rfl⟩⟩
    have I1 : Inv X pins σ (upd H s.heap.objs.size (.tup [.int (i : Nat), x])) { s with heap := h'', toks := tk + 1 } :=
      I.turnedNew (ch := [e, it]) (fun b ob hb q => (sb.2 b (fun z => hb (by simp [z]))).trans (hk b ob (fun z => hb (by simp [z])) (fun z => hb (by simp [z])) q)) hf (Nat.le_refl _) new
    refine ⟨.ref s.heap.objs.size, _, I1, rfl, ⟨_, x, rfl, I.hok.fresh (Nat.le_refl _), rfl, fun ys hy => by rw [I.tuple_inj hy hq]; exact hx⟩, ⟨⟨v, ?_⟩, hst.1.at fun o q => (sb.2 it (Ne.symm hne)).trans q, hne⟩, fun b hb => ?_⟩
    · have e1 : ((i + 1 : Nat) : Int) = (i : Int) + 1 := by omega
      rw [e1]; exact he'
    · have hb' : b < s.heap.objs.size := by
        have e' : b = e ∨ b = it := by simpa using hb
        rcases e' with z | z
        · rw [z]; exact hel
        · rw [z]; exact hil
      rw [upd_ne (Nat.ne_of_lt hb')]
      exact (hf b hb).1
  done := by
    intro X hP hw hK hc i pins s σ H E I hf st hg
    subst hP hw hK
    obtain ⟨⟨old, he⟩, hit, hne⟩ := st
    obtain ⟨xs, hq, hx⟩ := hg
    obtain ⟨its, rv, p, hz⟩ := I.tuple hq
    obtain ⟨f0, f1, f2, f3, f4, f5⟩ := hf it (by simp)
    have hl := rv.length
    have hT : s.TypeIs (.ref e) "enumerate" := ⟨_, he, rfl⟩
    unfold pyNext
    refine wpAny_bind (wpAny_attempt (wpAny_callSpecial?_slot (name := Str.ofString "__next__") hT F.slot_enumerate_next
      (wpAny_call_entry F.slot_enumerate_next hT F.entry_enumerate_next ?_ (F.args_enumerate_next_1 _))))
    show wpAny _ _ (field (.ref e) 2 >>= _) _ _ _
    refine wpAny_bind (wpAny_field he rfl (x := .ref it) rfl ?_)
    refine wpAny_bind (wpAny_nextOf_tuple_end (I.ok.hd hc) hit p (by simp; omega) fun h' x' he' hx' => ?_)
    obtain ⟨o, ho, hc'⟩ := hx'
    refine wpAny_bind (wpAny_isInstance (T := "StopIteration") (b := true) ⟨o, ho, hc'⟩ isSubtype_stop ?_)
    exact wpAny_pure ⟨rfl, I.turned (t' := s.toks) (fun b o hb q => he' b o hb q) f0 f1 f3 f4 f5⟩
  self := by
    intro A i s Q E st h
    obtain ⟨⟨old, he⟩, _⟩ := st
    exact wpAny_pyIter_enum he h
def iEnumT (K : PySem.W.Frag) (ta : TA) : TI := fun σ H R => ta σ H fun vs H1 => ∃ a xs, vs = [.ref a] ∧ SqT K H1 a xs ∧ R (IteT K a) H1
theorem pi_enumT {X : Cx} {e : Expr} {ta : TA} {p pos tpos : Pos} {elts : List Expr} {kk : Nat} (hg : Gl X "enumerate") (hm : X.mg "enumerate" = none) (ha : PA X [e] ta) (hs : starEach [e] X.env = [(false, eval e X.env)] := by rfl) :
    PI X (.Tuple elts kk tpos) (.Call (.Name "enumerate" p) [e] [] pos) (iEnumT X.K ta) := by
  refine ⟨fun pins s σ H R I h => ?_⟩
  refine Call_ (ld_blt I hg hm boot_enumerate (PyProof.Rows.callWith_type1 (thn (ha.run pos pins s σ H _ I h) fun us s1 ⟨vs, H1, I1, r1, q1⟩ => ?_) hs rfl))
  obtain ⟨a, xs, ex, hq, q⟩ := q1
  subst ex
  cases r1 with
  | cons r rr =>
    cases rr
    cases r
    obtain ⟨its, rv, p', hz⟩ := I1.tuple hq
    have hal : a < s1.heap.objs.size := p'.lt
    refine ga_enumerate_tuple p' fun h' he hit hsz hk => wpAny_pyIter_enum he ?_
    have I2 : Inv X pins σ H1 { s1 with heap := h' } := I1.kept (t' := s1.toks) hk
    refine ⟨s1.heap.objs.size + 1, [s1.heap.objs.size + 1, s1.heap.objs.size], _, _, H1, rfl, I2, turn_enumT a (s1.heap.objs.size + 1) s1.heap.objs.size (Nat.ne_of_lt hal) (Nat.ne_of_lt (Nat.lt_succ_of_lt hal)), ⟨⟨.none, he⟩, hit, Nat.succ_ne_self _⟩, fun b hb => ?_, q⟩
    have e' : b = s1.heap.objs.size + 1 ∨ b = s1.heap.objs.size := by simpa using hb
    have hle : s1.heap.objs.size ≤ b := by
      rcases e' with z | z
      · rw [z]; exact Nat.le_add_right _ _
      · rw [z]; exact Nat.le_refl _
    exact I1.fpOk hle (I1.hok.fresh hle)
theorem walk_enumT {K : PySem.W.Frag} {a : Addr} {xs : List V} : Walk (IteT K a) xs.length (fun H => SqT K H a xs) (YPair (fun i => some (.int (i : Nat))) (fun i => xs[i]?)) := by
  refine ⟨fun i _ hi q => ⟨xs, xs[i], q, by simp [hi]⟩, fun _ q => ⟨xs, q, Nat.le_refl _⟩, fun i H v H' _ q y => ?_⟩
  obtain ⟨T, x, h1, h2, h3, h4⟩ := y
  exact ⟨T, .int (i : Nat), x, h1, h2, h3, rfl, h4 xs q⟩
end GA
/-! ## GC -/
namespace GA
open PySem L2
theorem Ts.of {H H' : Hp} (k : ∀ a u, H a = some u → (∀ xs, u ≠ .lst xs) → H' a = some u) : Ts H H' := fun a xs h => h.elim (fun h => .inl (k a _ h fun _ z => nomatch z)) fun ⟨ob, h⟩ => .inr ⟨ob, k a _ h fun _ z => nomatch z⟩
theorem Ts.updl {H : Hp} {D : Addr} {xs : List V} {u : HO} (h : H D = some (.lst xs)) : Ts H (upd H D u) := Ts.of fun a w e n => by
  rw [upd_ne (ne_of e h (n xs))]; exact e
theorem Ts.trans {H H1 H2 : Hp} (a : Ts H H1) (b : Ts H1 H2) : Ts H H2 := fun x xs h => b x xs (a x xs h)
section
variable {K : PySem.W.Frag} {J : It} {n : Nat} {Gd : Hp → Prop} {Y : Nat → Hp → V → Hp → Prop} {o : Option (Addr × Addr)} {H1 : Hp} {D : Addr} {g : TG} {tt : TT} {te : TE} {vs : List Nat} {σ : L2.St} {Qd : Hp → Prop}
/-- a comprehension: what it has made as data; Pv by the turn, the data, the heap -/
theorem lc_data (wk : Walk J n Gd Y) (hn : n ≤ 100000) (hD : H1 D = none) (hh : ∀ p, o = some p → Hand H1 p.1 p.2) (Pv : Nat → List PyData → Hp → Prop)
    (stab : ∀ i acc H xs l, Pv i acc H → H D = some (.lst xs) → Pv i acc (upd H D (.lst l)))
    (h0 : Pv 0 [] (upd H1 D (.lst [])))
    (hG : ∀ i acc H, G o H1 H → Pv i acc H → Gd H)
    (hs : ∀ i x acc H H', i < n → G o H1 H → Pv i acc H → Y i H x H' → ∀ (Qy : V → Hp → Prop) (Qn : Hp → Prop), (∀ y H4 e, G o H H4 → Dp K H4 y e → nl e = true → Pv (i + 1) (acc ++ [e]) H4 → Qy y H4) → (∀ H3, G o H H3 → Pv (i + 1) acc H3 → Qn H3) →
      g x (wipe σ vs) H' fun σ2 H2 => wipe σ2 vs = wipe σ vs ∧ tt σ2 H2 fun b H3 => if b = true then te σ2 H3 Qy else Qn H3)
    (hd : ∀ ds xs H', Pv n ds H' → G o H1 H' → H' D = some (.lst xs) → DpAll K H' xs ds → nls ds = true → Qd H') :
    ∃ W : Nat → Nat → Hp → Prop, (∃ m, W 0 m (upd H1 D (.lst []))) ∧ ∀ i m H, W i m H →
      (J.stop i H ∧ Qd H) ∨ (J.go i H ∧ ∃ Nx : Hp → Prop, (∀ H', Nx H' → ∃ m', m' < m ∧ W (i + 1) m' H') ∧ ∀ x H', J.yld i H x H' → g x (wipe σ vs) H' fun σ2 H2 => wipe σ2 vs = wipe σ vs ∧ tt σ2 H2 fun b H3 =>
        if b = true then te σ2 H3 fun y H4 => ∃ acc, H4 D = some (.lst acc) ∧ acc.length < sizeLine ∧ Nx (upd H4 D (.lst (acc ++ [y]))) else Nx H3) := by
  have offD : ∀ p, o = some p → D ≠ p.1 := fun p e => (hh p e).ne hD
  refine lc_it wk (fun i H => ∃ ds xs, G o H1 H ∧ Pv i ds H ∧ H D = some (.lst xs) ∧ DpAll K H xs ds ∧ nls ds = true ∧ xs.length ≤ i) ?_ ?_ ?_ ?_
  · exact ⟨[], [], (G.refl).mut hD hh, h0, upd_same, .nil, rfl, Nat.le_refl _⟩
  · rintro i H _ ⟨ds, xs, q1, q2, _⟩
    exact hG i ds H q1 q2
  · rintro i x H H' hi ⟨ds, xs, q1, q2, q3, q4, q5, q6⟩ y
    have keepD : ∀ {H4 : Hp}, G o H H4 → H4 D = some (.lst xs) := fun g4 => g4.keep D _ offD q3
    refine hs i x ds H H' hi q1 q2 y _ _ (fun v H4 e g4 he ne hp => ?_) fun H3 g3 hp => ⟨ds, xs, q1.trans g3, hp, keepD g3, dpAll_t g3.tups _ _ q5 q4, q5, by omega⟩
    have hD4 := keepD g4
    have t4 : Ts H4 (upd H4 D (.lst (xs ++ [v]))) := Ts.updl hD4
    refine ⟨xs, hD4, Nat.lt_of_le_of_lt (by omega : xs.length ≤ 100000) (by decide), ds ++ [e], xs ++ [v], (q1.trans g4).mut hD hh, stab _ _ _ _ _ hp hD4, upd_same, ?_, ?_, ?_⟩
    · exact DpAll.app (dpAll_t (g4.tups.trans t4) _ _ q5 q4) (DpAll.one (dp_t t4 e v ne he))
    · rw [nls_iff] at q5 ⊢
      intro d hd
      rcases List.mem_append.mp hd with z | z
      · exact q5 d z
      · have : d = e := by simpa using z
        rw [this]; exact ne
    · rw [List.length_append, List.length_singleton]; omega
  · rintro H ⟨ds, xs, q1, q2, q3, q4, q5, _⟩
    exact hd ds xs H q2 q1 q3 q4 q5
/-- one whose items are told by their places -/
theorem lc_pure (wk : Walk J n Gd Y) (hn : n ≤ 100000) (hD : H1 D = none) (hh : ∀ p, o = some p → Hand H1 p.1 p.2) (f : Nat → Option PyData)
    (hG : ∀ H, G o H1 H → Gd H)
    (hs : ∀ i x H H', i < n → G o H1 H → Y i H x H' → ∀ (Qy : V → Hp → Prop) (Qn : Hp → Prop), (∀ y H4 e, G o H H4 → Dp K H4 y e → nl e = true → f i = some e → Qy y H4) → (∀ H3, G o H H3 → f i = none → Qn H3) →
      g x (wipe σ vs) H' fun σ2 H2 => wipe σ2 vs = wipe σ vs ∧ tt σ2 H2 fun b H3 => if b = true then te σ2 H3 Qy else Qn H3)
    (hd : ∀ xs H', G o H1 H' → H' D = some (.lst xs) → DpAll K H' xs ((List.range n).filterMap f) → nls ((List.range n).filterMap f) = true → Qd H') :
    ∃ W : Nat → Nat → Hp → Prop, (∃ m, W 0 m (upd H1 D (.lst []))) ∧ ∀ i m H, W i m H →
      (J.stop i H ∧ Qd H) ∨ (J.go i H ∧ ∃ Nx : Hp → Prop, (∀ H', Nx H' → ∃ m', m' < m ∧ W (i + 1) m' H') ∧ ∀ x H', J.yld i H x H' → g x (wipe σ vs) H' fun σ2 H2 => wipe σ2 vs = wipe σ vs ∧ tt σ2 H2 fun b H3 =>
        if b = true then te σ2 H3 fun y H4 => ∃ acc, H4 D = some (.lst acc) ∧ acc.length < sizeLine ∧ Nx (upd H4 D (.lst (acc ++ [y]))) else Nx H3) := by
  refine lc_data (K := K) wk hn hD hh (fun i acc _ => acc = (List.range i).filterMap f) (fun _ _ _ _ _ h _ => h) rfl (fun _ _ H q _ => hG H q) ?_ ?_
  · rintro i x acc H H' hi q1 rfl y Qy Qn ky kn
    refine hs i x H H' hi q1 y Qy Qn (fun y H4 e g4 he ne hf => ky y H4 e g4 he ne ?_) fun H3 g3 hf => kn H3 g3 ?_
    · rw [List.range_succ, List.filterMap_append]; simp [hf]
    · rw [List.range_succ, List.filterMap_append]; simp [hf]
  · rintro ds xs H' rfl q1 q2 q3 q4
    exact hd xs H' q1 q2 q3 q4
end
theorem G.at_hd {H0 H' : Hp} {hd c : Addr} (x : Hand H0 hd c) (E : ∀ a, a ≠ hd → H' a = H0 a) {i b m k : Int} (h : H' hd = some (.lst [.ref c, .int i, .int b, .int m, .int k])) (hi : 0 ≤ i) : G (some (hd, c)) H0 H' ∧ Hand H' hd c := by
  obtain ⟨n, ⟨ns, h1⟩, i0, b0, m0, k0, h2, h3⟩ := x
  have hh : Hand H' hd c := ⟨n, ⟨ns, by rw [E c n]; exact h1⟩, i, b, m, k, h, hi⟩
  refine ⟨⟨fun a u z e => ?_, fun a xs e => ?_, fun p e _ => ?_⟩, hh⟩
  · rw [E a (z _ rfl)]; exact e
  · have na : a ≠ hd := by
      rcases e with e | ⟨ob, e⟩
      · exact ne_of e h2 (by intro z; cases z)
      · exact ne_of e h2 (by intro z; cases z)
    rcases e with e | ⟨ob, e⟩
    · exact .inl (by rw [E a na]; exact e)
    · exact .inr ⟨ob, by rw [E a na]; exact e⟩
  · cases e; exact hh
theorem mem_cutV {xs : List V} {lo hi : Option Int} {v : V} (h : v ∈ cutV xs lo hi) : v ∈ xs := by
  unfold cutV at h
  exact List.mem_of_mem_drop (List.mem_of_mem_take h)
theorem ints_of {xs : List V} (h : ∀ v ∈ xs, ∃ n : Int, v = .int n) : ∃ ns : List Int, xs = ns.map V.int := by
  induction xs with
  | nil => exact ⟨[], rfl⟩
  | cons x xs ih =>
    obtain ⟨n, rfl⟩ := h x List.mem_cons_self
    obtain ⟨ns, rfl⟩ := ih fun v hv => h v (List.mem_cons_of_mem _ hv)
    exact ⟨n :: ns, rfl⟩
/-! new objects, told by what they leave -/
theorem PE.weak {X : Cx} {e : Expr} {t t' : TE} (h : PE X e t) (w : ∀ σ H Q, t' σ H Q → t σ H Q) : PE X e t' := ⟨fun pins s σ H Q I q => h.run pins s σ H Q I (w σ H Q q)⟩
theorem CallR.weak {X : Cx} {f : Value} {r r' : List V → Hp → VK → Prop} (h : CallR X f r) (w : ∀ xs H Q, r' xs H Q → r xs H Q) : CallR X f r' := fun pins s σ H xs us Q I rv q => h pins s σ H xs us Q I rv (w xs H Q q)
theorem OpR.weak {X : Cx} {f : Value → Value → Sem Value} {r r' : R2} (h : OpR X f r) (w : ∀ x y H Q, r' x y H Q → r x y H Q) : OpR X f r' := fun pins s σ H x y v u Q I r1 r2 q => h pins s σ H x y v u Q I r1 r2 (w x y H Q q)
theorem SlR.weak {X : Cx} {r r' : V → Option Int → Option Int → Hp → VK → Prop} (h : SlR X r) (w : ∀ x l u H Q, r' x l u H Q → r x l u H Q) : SlR X r' := fun pins s σ H x v vl vu lo hi sl Q I r1 hs pl pu q => h pins s σ H x v vl vu lo hi sl Q I r1 hs pl pu (w x lo hi H Q q)
/-- for each new object u at p: F p H2 -/
def New (H : Hp) (u : HO) (F : Addr → Hp → Prop) : Prop := ∀ p H2, H p = none → (∀ o, G o H H2) → H2 p = some u → F p H2
theorem New.go {H : Hp} {u : HO} {F : Addr → Hp → Prop} (h : New H u F) {p : Addr} (hp : H p = none) : F p (upd H p u) := h p _ hp (fun _ => G.alloc hp) upd_same
def tTupN (t : TA) : TE := fun σ H Q => t σ H fun xs H1 => xs.length ≤ sizeLine ∧ New H1 (.tup xs) fun p H2 => Q (.ref p) H2
def tLstN (t : TA) : TE := fun σ H Q => t σ H fun xs H1 => xs.length ≤ sizeLine ∧ New H1 (.lst xs) fun p H2 => Q (.ref p) H2
section
variable {X : Cx} {es : List Expr} {t : TA} {pos : Pos}
theorem pe_tupN {x1} (h : PA X es t) : PE X (.Tuple es x1 pos) (tTupN t) := by
  have h' : PA X es (fun σ H QA => t σ H QA) := h
  refine ⟨fun pins s σ H Q I q => ?_⟩
  have hm : PA X es (fun σ H QA => t σ H (fun xs H1 => xs.length ≤ sizeLine ∧ New H1 (.tup xs) fun p H2 => Q (.ref p) H2) ∧ ∀ xs H1, (xs.length ≤ sizeLine ∧ New H1 (.tup xs) fun p H2 => Q (.ref p) H2) → QA xs H1) :=
    ⟨fun pos pins s σ H QA I q => wpAny_mono (h.run pos pins s σ H _ I q.1) (fun us s1 ⟨vs, H1, I1, r, z⟩ => ⟨vs, H1, I1, r, q.2 vs H1 z⟩) fun _ _ z => z⟩
  exact (pe_tup hm).run pins s σ H Q I ⟨q, fun xs H1 z => ⟨z.1, fun p hp => z.2.go hp⟩⟩
theorem pe_lstN (h : PA X es t) : PE X (.List es pos) (tLstN t) := by
  refine ⟨fun pins s σ H Q I q => ?_⟩
  have hm : PA X es (fun σ H QA => t σ H (fun xs H1 => xs.length ≤ sizeLine ∧ New H1 (.lst xs) fun p H2 => Q (.ref p) H2) ∧ ∀ xs H1, (xs.length ≤ sizeLine ∧ New H1 (.lst xs) fun p H2 => Q (.ref p) H2) → QA xs H1) :=
    ⟨fun pos pins s σ H QA I q => wpAny_mono (h.run pos pins s σ H _ I q.1) (fun us s1 ⟨vs, H1, I1, r, z⟩ => ⟨vs, H1, I1, r, q.2 vs H1 z⟩) fun _ _ z => z⟩
  exact (pe_lst hm).run pins s σ H Q I ⟨q, fun xs H1 z => ⟨z.1, fun p hp => z.2.go hp⟩⟩
end
/-- tuple(a list): a new tuple; tuple(a tuple): itself -/
def rTupleN (K : PySem.W.Frag) : List V → Hp → VK → Prop := fun xs H Q => ∃ p ys, xs = [.ref p] ∧ ((SqL K H p ys ∧ New H (.tup ys) fun l H2 => Q (.ref l) H2) ∨ (SqT K H p ys ∧ Q (.ref p) H))
theorem call_tupleN {X : Cx} : CallR X (.type "tuple") (rTupleN X.K) := CallR.weak call_tuple_of fun xs H Q h => by
  obtain ⟨p, ys, e, h | h⟩ := h
  · exact ⟨p, ys, e, .inl ⟨h.1, fun l hl => h.2.go hl⟩⟩
  · exact ⟨p, ys, e, .inr h⟩
def rListN (K : PySem.W.Frag) : List V → Hp → VK → Prop := fun xs H Q => ∃ p ys, xs = [.ref p] ∧ (SqL K H p ys ∨ SqT K H p ys) ∧ New H (.lst ys) fun l H2 => Q (.ref l) H2
theorem call_listN {X : Cx} : CallR X (.type "list") (rListN X.K) := CallR.weak call_list_of fun xs H Q h => by
  obtain ⟨p, ys, e, h, q⟩ := h
  exact ⟨p, ys, e, h, fun l hl => q.go hl⟩
theorem w_tupN {σ : L2.St} {H : Hp} {Q : VK} {tr : TA} (q : tr σ H fun xs H1 => xs.length ≤ sizeLine ∧ New H1 (.tup xs) fun p H2 => Q (.ref p) H2) : tTupN tr σ H Q := q
theorem w_lstN {σ : L2.St} {H : Hp} {Q : VK} {tr : TA} (q : tr σ H fun xs H1 => xs.length ≤ sizeLine ∧ New H1 (.lst xs) fun p H2 => Q (.ref p) H2) : tLstN tr σ H Q := q
/-- for up to so many items -/
theorem sz {n : Nat} (h : n ≤ 100000) : n ≤ sizeLine := Nat.le_trans h (by decide)
theorem filterMap_range_map {α β : Type} (l : List α) (f : α → β) : (List.range l.length).filterMap (fun i => (l[i]?).map f) = l.map f := by
  induction l with
  | nil => rfl
  | cons a l ih =>
    rw [List.length_cons, List.range_succ_eq_map, List.filterMap_cons, List.filterMap_map]
    simp only [List.getElem?_cons_zero, Option.map_some, List.map_cons]
    congr 1
theorem filterMap_range_fm {α β : Type} (l : List α) (f : α → Option β) : (List.range l.length).filterMap (fun i => (l[i]?).bind f) = l.filterMap f := by
  induction l with
  | nil => rfl
  | cons a l ih =>
    rw [List.length_cons, List.range_succ_eq_map, List.filterMap_cons, List.filterMap_map, List.filterMap_cons]
    simp only [List.getElem?_cons_zero, Option.bind_some]
    cases f a with
    | none => exact ih
    | some b => simp only []; congr 1
section
variable {K : PySem.W.Frag} {σ : L2.St} {H : Hp} {Q : VK} {D : Ends}
theorem w_lc {wi : TI} {g : TG} {tt : TT} {te : TE} {vs : List Nat} (q : wi σ H fun J H1 => ∀ D, H1 D = none → ∃ W : Nat → Nat → Hp → Prop, (∃ m, W 0 m (upd H1 D (.lst []))) ∧ ∀ i m H, W i m H →
  (J.stop i H ∧ Q (.ref D) H) ∨ (J.go i H ∧ ∃ Nx : Hp → Prop, (∀ H', Nx H' → ∃ m', m' < m ∧ W (i + 1) m' H') ∧ ∀ x H', J.yld i H x H' → g x (wipe σ vs) H' fun σ2 H2 => wipe σ2 vs = wipe σ vs ∧ tt σ2 H2 fun b H3 =>
    if b = true then te σ2 H3 fun y H4 => ∃ acc, H4 D = some (.lst acc) ∧ acc.length < sizeLine ∧ Nx (upd H4 D (.lst (acc ++ [y]))) else Nx H3)) : tLc wi g tt te vs σ H Q := q
theorem w_nt {A B : Prop} (q : B) : if (!true) = true then A else B := q
theorem w_nf {A B : Prop} (q : A) : if (!false) = true then A else B := q
theorem w_iteE {b : Bool} {A B : Prop} (e : b = true) (q : A) : if b = true then A else B := by rw [if_pos e]; exact q
theorem w_iteN {b : Bool} {A B : Prop} (e : b = false) (q : B) : if b = true then A else B := by rw [e]; exact q
theorem w_isN {te : TE} (q : te σ H fun x H1 => Q (.bl (decide (x = .non))) H1) : tIsN te σ H Q := q
theorem w_notN {te : TE} (q : te σ H fun x H1 => Q (.bl (!decide (x = .non))) H1) : tNotN te σ H Q := q
theorem w_seqM {ts tu : TS} (M : L2.St → Hp → Prop) (h1 : ∀ N : L2.St → Hp → Prop, (∀ σ' H', M σ' H' → N σ' H') → ts { D with nx := N } σ H) (h2 : ∀ σ' H', M σ' H' → tu D σ' H') : tSeq ts tu D σ H := h1 _ h2
theorem w_make {C : Addr} {sp : Sp} {E : XK} {tr : TA} (q : tr σ H fun vs H1 => ∀ x dx, H1 x = none → H1 dx = none → dx ≠ x → sp (.ref x :: (vs ++ [])) (upd (upd H1 dx (.own x)) x (.ins C dx [])) (fun v H2 => v = .non ∧ Q (.ref x) H2) E) : tMake C sp [] E tr σ H Q := q
theorem w_yes {QB : Bool → Hp → Prop} (q : QB true H) : tYes σ H QB := q
theorem w_for {wi : TI} {g : TG} {tb : TS} (q : wi σ H fun J H1 => ∃ W : Nat → Nat → L2.St → Hp → Prop, (∃ m, W 0 m σ H1) ∧ ∀ i m σ H, W i m σ H →
  (J.stop i H ∧ D.nx σ H) ∨ (J.go i H ∧ ∃ N : L2.St → Hp → Prop, (∀ σ' H', N σ' H' → ∃ m', m' < m ∧ W (i + 1) m' σ' H') ∧ ∀ x H', J.yld i H x H' → g x σ H' fun σ2 H2 => tb { D with nx := N, ct := N, bk := D.nx } σ2 H2)) : tFor wi g tb D σ H := q
variable {R : It → Hp → Prop} {ta : TA} {te : TE}
theorem w_rng1 (q : ta σ H fun vs H1 => ∃ j : Int, vs = [.int j] ∧ -(2 ^ 62) ≤ j ∧ j < 2 ^ 62 ∧ R (Itr 0 j.toNat) H1) : iRng1 ta σ H R := q
theorem w_rng2 (q : ta σ H fun vs H1 => ∃ i j : Int, vs = [.int i, .int j] ∧ (-(2 ^ 62) ≤ i ∧ i < 2 ^ 62 ∧ -(2 ^ 62) ≤ j ∧ j < 2 ^ 62) ∧ R (Itr i (j - i).toNat) H1) : iRng2 ta σ H R := q
theorem w_itup (q : te σ H fun x H1 => ∃ a, x = .ref a ∧ (∃ xs, SqT K H1 a xs) ∧ R (Itt K a) H1) : iTup K te σ H R := q
theorem w_ilist (q : te σ H fun x H1 => ∃ a, x = .ref a ∧ (∃ xs, SqL K H1 a xs) ∧ R (Itl K a) H1) : iList K te σ H R := q
theorem w_ienum (q : ta σ H fun vs H1 => ∃ a xs, vs = [.ref a] ∧ SqT K H1 a xs ∧ R (IteT K a) H1) : iEnumT K ta σ H R := q
theorem w_izip (q : ta σ H fun vs H1 => ∃ a b xs ys, vs = [.ref a, .ref b] ∧ ((SqL K H1 a xs ∧ SqL K H1 b ys ∧ R (Itz K a b) H1) ∨ (SqT K H1 a xs ∧ SqT K H1 b ys ∧ R (RZ.ItzT K a b) H1))) : RZ.iZipA K ta σ H R := q
theorem w_BM {T : String} {r : V → List V → Hp → VK → Prop} {to : TE} (q : to σ H fun x H1 => tyV K T x H1 ∧ ta σ H1 fun xs H2 => r x xs H2 Q) : tBM K T r to ta σ H Q := q
theorem w_BM0 {T : String} {r : V → List V → Hp → VK → Prop} {to : TE} (q : to σ H fun x H1 => tyV K T x H1 ∧ r x [] H1 Q) : tBM0 K T r to σ H Q := q
theorem i_BM {l : Addr} {xs : List V} {F : Prop} (h : H l = some (.lst xs)) (q : F) : tyV K "list" (.ref l) H ∧ F := ⟨.inl ⟨rfl, _, SqL.of h⟩, q⟩
theorem r_app {l : Addr} {xs : List V} {y : V} (h : H l = some (.lst xs)) (hz : xs.length ≤ 90000) (q : Q .non (upd H l (.lst (xs ++ [y])))) : rAppend (.ref l) [y] H Q := ⟨l, xs, y, rfl, rfl, h, Nat.lt_of_le_of_lt hz (by decide), q⟩
theorem i_rng1 {F : Int → Prop} {j : Int} (h1 : 0 ≤ j) (h2 : j ≤ 100000) (q : F j) : ∃ k : Int, [V.int j] = [.int k] ∧ -(2 ^ 62) ≤ k ∧ k < 2 ^ 62 ∧ F k := ⟨j, rfl, by omega, by omega, q⟩
theorem i_rng2 {F : Int → Int → Prop} {i j : Int} (h : -100000 ≤ i ∧ i ≤ 100000 ∧ -100000 ≤ j ∧ j ≤ 100000) (q : F i j) : ∃ k l : Int, [V.int i, V.int j] = [.int k, .int l] ∧ (-(2 ^ 62) ≤ k ∧ k < 2 ^ 62 ∧ -(2 ^ 62) ≤ l ∧ l < 2 ^ 62) ∧ F k l := ⟨i, j, rfl, by omega, q⟩
theorem i_tup {F : Addr → Prop} {a : Addr} {xs : List V} (h : SqT K H a xs) (q : F a) : ∃ b, V.ref a = .ref b ∧ (∃ xs, SqT K H b xs) ∧ F b := ⟨a, rfl, ⟨xs, h⟩, q⟩
theorem i_list {F : Addr → Prop} {a : Addr} {xs : List V} (h : SqL K H a xs) (q : F a) : ∃ b, V.ref a = .ref b ∧ (∃ xs, SqL K H b xs) ∧ F b := ⟨a, rfl, ⟨xs, h⟩, q⟩
theorem i_enum {F : Addr → Prop} {a : Addr} {xs : List V} (h : SqT K H a xs) (q : F a) : ∃ (b : Addr) (ys : List V), [V.ref a] = [.ref b] ∧ SqT K H b ys ∧ F b := ⟨a, xs, rfl, h, q⟩
end
end GA
/-! ## GD -/
namespace GA
open PySem L2
/-! ### data within data -/
def rInDT (K : PySem.W.Frag) : R2 := fun x y H Q => ∃ d ds, Dp K H x d ∧ Dp K H y (.tuple ds) ∧ SeqAt.shaped d = true ∧ SeqAt.shaped (.tuple ds) = true ∧ Q (.bl (ds.any fun z => PyData.eqv z d)) H
theorem op_inDT {X : Cx} (hu : X.A.units + 65 < cLine) : OpR X (compareOp .In) (rInDT X.K) := by
  intro pins s σ H x y v u Q I rx ry h
  obtain ⟨d, ds, hd, he, sd, se, q⟩ := h
  obtain ⟨as, r1⟩ := Dp.reads I d x v hd rx
  obtain ⟨bs, r2⟩ := Dp.reads I (.tuple ds) y u he ry
  exact SeqAt.in_tuple_reads r2 r1 (SeqAt.canLay_of_shaped se) (SeqAt.canLay_of_shaped sd) (PyProof.Rows.room_in_shaped sd hu) ⟨.bl _, H, I, rfl, q⟩
theorem u65 {k : Nat} {A : Around} (hr : Room k A) : A.units + 65 < cLine := by
  have := hr.un
  omega
theorem canAll {ds : List PyData} (h : ∀ d ∈ ds, d.canLay0 = true) : PyData.canLayAll0 ds = true := by
  induction ds with
  | nil => rfl
  | cons d ds ih => rw [PyData.canLayAll0, h d List.mem_cons_self, ih fun e he => h e (List.mem_cons_of_mem _ he)]; rfl
theorem depAll {n : Nat} {ds : List PyData} (h : ∀ d ∈ ds, d.depth ≤ n) : PyData.depthAll ds ≤ n := by
  induction ds with
  | nil => rw [PyData.depthAll]; exact Nat.zero_le _
  | cons d ds ih =>
    rw [PyData.depthAll]
    have h1 := h d List.mem_cons_self
    have h2 := ih fun e he => h e (List.mem_cons_of_mem _ he)
    omega
theorem sh_of {d : PyData} (h1 : d.canLay0 = true) (h2 : d.depth ≤ 64) : SeqAt.shaped d = true := by
  unfold SeqAt.shaped
  rw [h1, decide_eq_true h2]; rfl
theorem dep_tup {n : Nat} {ds : List PyData} (h : ∀ d ∈ ds, d.depth ≤ n) : (PyData.tuple ds).depth ≤ n + 1 := by
  rw [PyData.depth]
  have := depAll h
  omega
theorem can_tup {ds : List PyData} (h : ∀ d ∈ ds, d.canLay0 = true) : (PyData.tuple ds).canLay0 = true := by
  rw [PyData.canLay0]; exact canAll h
theorem can_int {n : Int} : (PyData.int n).canLay0 = true := by simp [PyData.canLay0]
theorem dep_int {n : Int} : (PyData.int n).depth = 0 := by simp [PyData.depth]
theorem can_dI (ns : List Int) : (dI ns).canLay0 = true := can_tup fun d h => by
  obtain ⟨n, _, rfl⟩ := List.mem_map.mp h
  exact can_int
theorem dep_dI (ns : List Int) : (dI ns).depth ≤ 1 := dep_tup (n := 0) fun d h => by
  obtain ⟨n, _, rfl⟩ := List.mem_map.mp h
  rw [dep_int]; exact Nat.le_refl _
theorem can_dP (w : Int × Int) : (dP w).canLay0 = true := can_dI [w.1, w.2]
theorem dep_dP (w : Int × Int) : (dP w).depth ≤ 1 := dep_dI [w.1, w.2]
theorem can_dW (ws : List (Int × Int)) : (dW ws).canLay0 = true := can_tup fun d h => by
  obtain ⟨n, _, rfl⟩ := List.mem_map.mp h
  exact can_dP n
theorem dep_dW (ws : List (Int × Int)) : (dW ws).depth ≤ 2 := dep_tup (n := 1) fun d h => by
  obtain ⟨n, _, rfl⟩ := List.mem_map.mp h
  exact dep_dP n
theorem sh_dI (ns : List Int) : SeqAt.shaped (dI ns) = true := sh_of (can_dI ns) (Nat.le_trans (dep_dI ns) (by decide))
theorem sh_dP (w : Int × Int) : SeqAt.shaped (dP w) = true := sh_of (can_dP w) (Nat.le_trans (dep_dP w) (by decide))
theorem sh_dW (ws : List (Int × Int)) : SeqAt.shaped (dW ws) = true := sh_of (can_dW ws) (Nat.le_trans (dep_dW ws) (by decide))
theorem eqv_int {i j : Int} : PyData.eqv (.int i) (.int j) = decide (i = j) := by
  rw [PyData.eqv]; exact Bool.beq_eq_decide_eq i j
theorem eqvAll_map {α : Type} [DecidableEq α] {f : α → PyData} (h : ∀ x y, PyData.eqv (f x) (f y) = decide (x = y)) : ∀ (xs ys : List α), PyData.eqvAll (xs.map f) (ys.map f) = decide (xs = ys)
  | [], [] => by simp [PyData.eqvAll]
  | [], y :: ys => by simp [PyData.eqvAll]
  | x :: xs, [] => by simp [PyData.eqvAll]
  | x :: xs, y :: ys => by
    rw [List.map_cons, List.map_cons, PyData.eqvAll, h, eqvAll_map h xs ys]
    simp only [List.cons.injEq]
    by_cases h1 : x = y <;> by_cases h2 : xs = ys <;> simp [h1, h2]
theorem eqv_dI (ns ms : List Int) : PyData.eqv (dI ns) (dI ms) = decide (ns = ms) := by
  rw [PyData.eqv]; exact eqvAll_map (fun _ _ => eqv_int) ns ms
theorem eqv_dP (u v : Int × Int) : PyData.eqv (dP u) (dP v) = decide (u = v) := by
  have := eqv_dI [u.1, u.2] [v.1, v.2]
  have e : decide (([u.1, u.2] : List Int) = [v.1, v.2]) = decide (u = v) := by
    rw [decide_eq_decide]
    constructor
    · intro h
      injection h with h1 h2
      injection h2 with h2 _
      exact Prod.ext h1 h2
    · intro h; rw [h]
  rw [← e]; exact this
theorem eqv_dW (us ws : List (Int × Int)) : PyData.eqv (dW us) (dW ws) = decide (us = ws) := by
  rw [PyData.eqv]; exact eqvAll_map eqv_dP us ws
theorem any_dP (ws : List (Int × Int)) (u : Int × Int) : ((ws.map dP).any fun z => PyData.eqv z (dP u)) = decide (u ∈ ws) := by
  rw [List.any_map]
  have : (fun z => PyData.eqv z (dP u)) ∘ dP = fun z => decide (z = u) := by
    funext z; exact eqv_dP z u
  rw [this]
  induction ws with
  | nil => simp
  | cons w ws ih =>
    rw [List.any_cons, ih]
    by_cases h : w = u
    · simp [h]
    · have h' : ¬ u = w := fun e => h e.symm
      simp [h, h']
/-! the rules with the written part told: for a comprehension's block -/
section
variable {X : Cx}
theorem k_ix_tup (K : PySem.W.Frag) (hK : X.K = K := by rfl) : IxR X (rIxT K) := by subst hK; exact ix_tup
theorem k_ix_list (K : PySem.W.Frag) (hK : X.K = K := by rfl) : IxR X (rIxL K) := by subst hK; exact ix_list
theorem k_op_in_seq (K : PySem.W.Frag) (hK : X.K = K := by rfl) : OpR X (compareOp .In) (rIn K false) := by subst hK; exact op_in_seq
theorem k_op_notIn_seq (K : PySem.W.Frag) (hK : X.K = K := by rfl) : OpR X (compareOp .NotIn) (rIn K true) := by subst hK; exact op_notIn_seq
theorem k_call_isi (K : PySem.W.Frag) (hK : X.K = K := by rfl) : CallR X (.builtin "isinstance") (rIsi K) := by subst hK; exact call_isi
theorem k_call_isiT (K : PySem.W.Frag) (hK : X.K = K := by rfl) : CallR X (.builtin "isinstance") (rIsiT K) := by subst hK; exact call_isiT
theorem k_call_tupleN (K : PySem.W.Frag) (hK : X.K = K := by rfl) : CallR X (.type "tuple") (rTupleN K) := by subst hK; exact call_tupleN
theorem k_call_listN (K : PySem.W.Frag) (hK : X.K = K := by rfl) : CallR X (.type "list") (rListN K) := by subst hK; exact call_listN
theorem k_op_inDT (K : PySem.W.Frag) (hu : X.A.units + 65 < cLine) (hK : X.K = K := by rfl) : OpR X (compareOp .In) (rInDT K) := by subst hK; exact op_inDT hu
theorem k_op_eqD (K : PySem.W.Frag) (hu : X.A.units + 64 < cLine) (hK : X.K = K := by rfl) : OpR X (compareOp .Eq) (rEqD K) := by subst hK; exact op_eqD hu
theorem k_op_neD (K : PySem.W.Frag) (hu : X.A.units + 64 < cLine) (hK : X.K = K := by rfl) : OpR X (compareOp .NotEq) (rNeD K) := by subst hK; exact op_neD hu
theorem k_cr_all (K : PySem.W.Frag) (hc : X.calm = true) (hK : X.K = K := by rfl) : CallR X (.builtin "all") (rAll K) := by subst hK; exact cr_all hc
/-- len of a list or tuple -/
def rLenK (K : PySem.W.Frag) : List V → Hp → VK → Prop := fun xs H Q => ∃ p ys, xs = [.ref p] ∧ (SqL K H p ys ∨ SqT K H p ys) ∧ Q (.int ys.length) H
theorem k_call_len_seq (K : PySem.W.Frag) (hK : X.K = K := by rfl) : CallR X (.builtin "len") (rLenK K) := by subst hK; exact call_len_seq
theorem k_fld (K : PySem.W.Frag) {e : Expr} {f : Str} {pos : Pos} {ta : TE} (he : PE X e ta) (hb : attributeBase e f X.env (eval e X.env) = eval e X.env) (hK : X.K = K := by rfl) : PE X (.Attribute e f pos) (tFld K ta f) := by subst hK; exact pe_fld he hb
theorem k_pi_list (K : PySem.W.Frag) {tg l : Expr} {tl : TE} (hl : PE X l tl) (hK : X.K = K := by rfl) : PI X tg l (iList K tl) := by subst hK; exact pi_list hl
theorem k_pi_tup (K : PySem.W.Frag) {tg l : Expr} {tl : TE} (hl : PE X l tl) (hK : X.K = K := by rfl) : PI X tg l (iTup K tl) := by subst hK; exact pi_tup hl
end
end GA
/-! ## GE -/
namespace PyProof.Rows
open PySem
section
variable {prog : Program} {w : World} {A : Around} {E : Value → Shared → Prop} {s : Shared}
theorem ga_collect_tuple {l : Addr} {vs : List Value} {Q : List Value → Shared → Prop} (hl : s.heap.IsTuple l vs.toArray)
    (h : Q vs { s with heap := (s.heap.push (seqObj "list" #[] 0)).update s.heap.objs.size (Obj.mapSeq (· ++ vs.toArray)) }) (hsz : vs.length ≤ sizeLine := by size_fits) :
    wpAny (model prog w) A (collect (.ref l)) Q E s := by
  obtain ⟨o, ho, hc, n, hd⟩ := id hl
  unfold collect
  refine wpAny_bind (wpAny_runValue (codeAny_builtin entry_proto_collect' ?_))
  show wpAny _ _ (do again (.builtin "list.__iadd__" ⟨[← newList [], .ref l], []⟩)) _ _ s
  refine wpAny_bind (wpAny_newList (wpAny_pure ⟨Code.quiet_builtin _ (by decide +kernel), codeAny_builtin entry_list_iadd' ?_⟩))
  show wpAny _ _ (Builtin.List.listExtendWith (.ref s.heap.objs.size) (.ref l) (.ref s.heap.objs.size)) _ _ { s with heap := s.heap.push (seqObj "list" #[] 0) }
  unfold Builtin.List.listExtendWith
  have ho' : (s.heap.push (seqObj "list" #[] 0)).get? l = some o := Heap.get?_push_of_some _ ho
  refine wpAny_bind (wpAny_typeOf (T := "tuple") ⟨o, ho', hc⟩ ?_)
  have ht : (Value.type "tuple" == Value.type "tuple") = true := by rfl
  rw [if_pos (by rw [ht]; simp)]
  refine wpAny_bind (listItems_at ho' hd ?_)
  refine wpAny_bind (listItems_at (xs := #[]) (n := 0) (Heap.get?_push_size _ rfl) rfl ?_)
  rw [if_neg (by simp)]
  refine wpAny_bind (listUpdate_at (xs := #[]) (n := 0) (Heap.get?_push_size _ rfl) rfl ?_ (Nat.zero_le _) (by show (#[] ++ vs.toArray).size ≤ sizeLine + 1; simp only [Array.size_append, List.size_toArray, List.length_nil]; omega))
  refine wpAny_pure ?_
  show wpAny (model prog w) A (do
      let o ← load s.heap.objs.size
      match o.data with
      | .seq xs _ => pure xs.toList
      | _ => unsupported "internal:collect") Q E { s with heap := (s.heap.push (seqObj "list" #[] 0)).update s.heap.objs.size (Obj.mapSeq (· ++ vs.toArray)) }
  refine wpAny_bind (wpAny_load (get?_update_seq (Heap.get?_push_size _ rfl) _) ?_)
  show wpAny _ _ (pure ((#[] : Array Value) ++ vs.toArray).toList) Q E _
  rw [show ((#[] : Array Value) ++ vs.toArray).toList = vs by simp]
  exact wpAny_pure h
end
end PyProof.Rows
namespace SrtO
open PySem PyProof.Rows Srt
section
variable {prog : Program} {w : World} {A : Around} {E : Value → Shared → Prop} {s : Shared}
theorem ga_sorted_ordT {l : Addr} {vs : List Value} {ltv : Value → Value → Bool} {Q : Value → Shared → Prop} (O : Swo ltv) (hl : s.heap.IsTuple l vs.toArray) (hz : vs.length ≤ sizeLine)
    (hS : 2 ≤ vs.length → ∀ (h₁ : Heap) (a : Addr), h₁.get? a = some (seqObj "list" vs.toArray 0) → (∀ b o, s.heap.get? b = some o → b ≠ a ∧ h₁.get? b = some o) → SortableO prog w A.in1.in1 { s with heap := h₁ } a vs ltv)
    (h : ∀ out : List Value, Srtd ltv out → Stb ltv out vs → Q (.ref (s.heap.objs.size + 1)) { s with heap := sortedAll s.heap vs out.toArray }) :
    wpAny (model prog w) A (call (.builtin "sorted") [.ref l]) Q E s := by
  refine Calls.call_function_entry kind_sorted plain_sorted entry_sorted (args_sorted1 _) ?_
  unfold Builtin.«sorted»
  refine wpAny_bind (m := checkCount "sorted" 1 1 _) (wpAny_pure ?_)
  refine wpAny_bind (ga_collect_tuple hl ?_ hz)
  refine wpAny_bind (wpAny_newList ?_ hz)
  have hsz : ((s.heap.push (seqObj "list" #[] 0)).update s.heap.objs.size (Obj.mapSeq (· ++ vs.toArray))).objs.size = s.heap.objs.size + 1 := by
    rw [Heap.size_update, size_push']
  have hoL : (((s.heap.push (seqObj "list" #[] 0)).update s.heap.objs.size (Obj.mapSeq (· ++ vs.toArray))).push (seqObj "list" vs.toArray 0)).get? (s.heap.objs.size + 1) = some (seqObj "list" vs.toArray 0) := by
    rw [← hsz]; exact Heap.get?_push_size _ rfl
  have keep : ∀ b o, s.heap.get? b = some o → b ≠ s.heap.objs.size + 1 ∧ (((s.heap.push (seqObj "list" #[] 0)).update s.heap.objs.size (Obj.mapSeq (· ++ vs.toArray))).push (seqObj "list" vs.toArray 0)).get? b = some o := fun b o q => by
    have hlt : b < s.heap.objs.size := Heap.lt_size q
    refine ⟨Nat.ne_of_lt (Nat.lt_succ_of_lt hlt), Heap.get?_push_of_some _ ?_⟩
    rw [Heap.get?_update_ne _ _ _ _ (Nat.ne_of_lt hlt)]
    exact Heap.get?_push_of_some _ q
  show wpAny _ _ _ _ _ { s with heap := ((s.heap.push (seqObj "list" #[] 0)).update s.heap.objs.size (Obj.mapSeq (· ++ vs.toArray))).push (seqObj "list" vs.toArray 0) }
  rw [hsz]
  refine wpAny_bind (wpAny_holding (wpAny_call_entry slot_list_sort ⟨_, hoL, rfl⟩ entry_list_sort (list_sort_ord O hoL hz (fun h2 => hS h2 _ _ hoL keep) fun out hs hb => ⟨_, rfl, ?_⟩) (args_list_sort _)))
  exact wpAny_pure ⟨_, rfl, h out hs hb⟩
end
end SrtO
namespace GA
open PySem PySem.Spec PyProof.Rows L2
/-- sorted(t), t a tuple of ints -/
def rSortedIT (K : PySem.W.Frag) : List V → Hp → VK → Prop := fun vs H Q => ∃ (a : Addr) (ns : List Int), vs = [V.ref a] ∧ SqT K H a (ns.map V.int) ∧
  ∀ (ns' : List Int), ns'.Perm ns → ns'.Pairwise (· ≤ ·) → New H (.lst (ns'.map V.int)) fun p H2 => Q (.ref p) H2
theorem cr_sortedIT {X : Cx} : CallR X (.builtin "sorted") (rSortedIT X.K) := by
  intro pins s σ H vs us Q I r h
  obtain ⟨a, ns, rfl, hs, q⟩ := h
  obtain ⟨its, rv, hl, hz⟩ := I.tuple hs
  rw [Vals.ref1 r]
  have hi := rv.ints
  refine SrtO.ga_sorted_ordT SrtO.swo_int hl (by rw [← rv.length]; exact hz) (fun h2 h₁ a' _ _ => SrtO.ints_sortable hi h2) fun out h1 h2 => ?_
  obtain ⟨k1, k2, k3⟩ := SrtO.ints_out hi h1 h2
  obtain ⟨ep, he'⟩ := PyProof.Rows.sortedAll_at s.heap its out.toArray
  have hlen : ((out.map SrtO.iv).map V.int).length ≤ sizeLine := by
    rw [List.length_map, k2.length_eq]
    rw [List.length_map] at hz
    exact hz
  exact ⟨.ref _, upd H (s.heap.objs.size + 1) (.lst ((out.map SrtO.iv).map V.int)), I.laid (t' := s.toks) (fun _ _ => PyProof.Rows.sortedAll_old) (Nat.le_succ _) ⟨hlen, out, ep, vals_of_ints k1, he'⟩, rfl, (q _ k2 k3).go (I.hok.fresh (Nat.le_succ _))⟩
def rSortedIL (K : PySem.W.Frag) : List V → Hp → VK → Prop := fun vs H Q => ∃ (a : Addr) (ns : List Int), vs = [V.ref a] ∧ SqL K H a (ns.map V.int) ∧
  ∀ (ns' : List Int), ns'.Perm ns → ns'.Pairwise (· ≤ ·) → New H (.lst (ns'.map V.int)) fun p H2 => Q (.ref p) H2
theorem cr_sortedIL {X : Cx} : CallR X (.builtin "sorted") (rSortedIL X.K) := CallR.weak cr_sortedI fun xs H Q h => by
  obtain ⟨a, ns, e, h1, q⟩ := h
  exact ⟨a, ns, e, h1, fun ns' p k1 k2 hp => (q ns' k1 k2).go hp⟩
/-- sorted(d), d a dict with int keys -/
def rSortedDN : List V → Hp → VK → Prop := fun xs H Q => ∃ (a : Addr) (kvs : List (Key × V)) (ks : List Int), xs = [.ref a] ∧ H a = some (.dK kvs) ∧ kvs.map (·.1) = ks.map Sum.inl ∧ ks.length < 64 ∧
  ∀ (ns' : List Int), ns'.Perm ks → ns'.Pairwise (· ≤ ·) → New H (.lst (ns'.map V.int)) fun p H2 => Q (.ref p) H2
theorem cr_sortedDN {X : Cx} (hc : X.calm = true) : CallR X (.builtin "sorted") rSortedDN := CallR.weak (call_sortedDI hc) fun xs H Q h => by
  obtain ⟨a, kvs, ks, e, h1, h2, h3, q⟩ := h
  exact ⟨a, kvs, ks, e, .inl h1, h2, h3, fun ys p k1 k2 hp => (q ys k1 k2).go hp⟩
/-- list(range(..)) -/
def tLstRgN (te : L2.St → Hp → (Int → Int → Hp → Prop) → Prop) : TE := fun σ H Q => te σ H fun a b H1 => RgOk a b ∧ New H1 (.lst (rgV a b)) fun q H2 => Q (.ref q) H2
/-- a range's ends, told: whatever is wanted is wanted of less -/
def MoR (te : L2.St → Hp → (Int → Int → Hp → Prop) → Prop) : Prop := ∀ σ H F F', (∀ a b H1, F a b H1 → F' a b H1) → te σ H F → te σ H F'
theorem pe_listRgN {X : Cx} {e : Expr} {te : L2.St → Hp → (Int → Int → Hp → Prop) → Prop} {p pos : Pos} (hc : X.calm = true) (hg : Gl X "list") (hm : X.mg "list" = none) (he : PRg X e te) (mo : MoR te) (na : starEach [e] X.env = (false, eval e X.env) :: starEach [] X.env := by rfl) : PE X (.Call (.Name "list" p) [e] [] pos) (tLstRgN te) :=
  PE.weak (pe_listRg hc hg hm he na) fun σ H Q q => mo σ H _ _ (fun a b H1 h => ⟨h.1, fun q hq => h.2.go hq⟩) q
def MoE (te : TE) : Prop := ∀ σ H Q Q', (∀ v H1, Q v H1 → Q' v H1) → te σ H Q → te σ H Q'
theorem mo_var {i : Nat} : MoE (tVar i) := fun _ _ _ _ h ⟨v, e, q⟩ => ⟨v, e, h _ _ q⟩
theorem mo_rg1 {te : TE} (h : MoE te) : MoR (tRg1 te) := fun σ H F F' k q => h σ H _ _ (fun v H1 ⟨n, e, z⟩ => ⟨n, e, k _ _ _ z⟩) q
theorem mo_op {te tb : TE} {r : R2} (h : MoE te) (hb : MoE tb) (hr : ∀ x y H Q Q', (∀ v H1, Q v H1 → Q' v H1) → r x y H Q → r x y H Q') : MoE (tOp r te tb) := fun σ H Q Q' k q => h σ H _ _ (fun v H1 z => hb σ H1 _ _ (fun u H2 z => hr _ _ _ _ _ k z) z) q
theorem mo_fld {K : PySem.W.Frag} {te : TE} {f : Str} (h : MoE te) : MoE (tFld K te f) := fun σ H Q Q' k q => h σ H _ _ (fun v H1 ⟨a, C, dx, fs, v', e1, e2, e3, e4, e5, z⟩ => ⟨a, C, dx, fs, v', e1, e2, e3, e4, e5, k _ _ z⟩) q
section
variable {K : PySem.W.Frag} {σ : L2.St} {H : Hp} {Q : VK}
theorem w_lstRg {te : L2.St → Hp → (Int → Int → Hp → Prop) → Prop} (q : te σ H fun a b H1 => RgOk a b ∧ New H1 (.lst (rgV a b)) fun q H2 => Q (.ref q) H2) : tLstRgN te σ H Q := q
theorem w_rg1 {te : TE} {F : Int → Int → Hp → Prop} (q : te σ H fun x H1 => ∃ n, x = .int n ∧ F 0 n H1) : tRg1 te σ H F := q
end
end GA
/-! ## GF -/
namespace GA
open PySem PySem.Spec PyProof.Rows L2
def ltW (u v : Int × Int) : Prop := u.1 < v.1 ∨ (u.1 = v.1 ∧ u.2 < v.2)
def in64 (u : Int × Int) : Prop := (0 ≤ u.1 ∧ u.1 < 64) ∧ (0 ≤ u.2 ∧ u.2 < 64)
section
variable {K : PySem.W.Frag} {H : Hp}
theorem ks_of : ∀ {xs : List V} {us : List (Int × Int)}, DpAll K H xs (us.map dP) → ∃ ks : List (Addr × List Int), xs = (ks.map fun p => V.ref p.1) ∧ (∀ p ∈ ks, SqT K H p.1 (p.2.map V.int)) ∧ ks.map (·.2) = us.map fun u => [u.1, u.2]
  | _, [], .nil => ⟨[], rfl, (fun _ h => nomatch h), rfl⟩
  | _, u :: us, .cons h t => by
    obtain ⟨ks, rfl, h1, h2⟩ := ks_of t
    obtain ⟨a, rfl, ha⟩ := dp_dP h
    refine ⟨(a, [u.1, u.2]) :: ks, rfl, fun p hp => ?_, by rw [List.map_cons, h2]; rfl⟩
    rcases List.mem_cons.mp hp with e | hp
    · rw [e]; exact ha
    · exact h1 p hp
end
theorem dp_ks {K : PySem.W.Frag} {H : Hp} : ∀ (M : List (Addr × List Int)) (ws : List (Int × Int)), (∀ q ∈ M, SqT K H q.1 (q.2.map V.int)) → M.map (·.2) = (ws.map fun u => [u.1, u.2]) → DpAll K H (M.map fun q => V.ref q.1) (ws.map dP)
  | [], [], _, _ => .nil
  | [], _ :: _, _, e => by simp at e
  | _ :: _, [], _, e => by simp at e
  | q :: M, w :: ws, h, e => by
    rw [List.map_cons, List.map_cons] at e
    injection e with e1 e2
    refine .cons ?_ (dp_ks M ws (fun p hp => h p (List.mem_cons_of_mem _ hp)) e2)
    have z := h q List.mem_cons_self
    rw [e1] at z
    exact dp_ofP z
section
variable {X : Cx}
/-- set(l), l a list of pairs of ints -/
def rSetPN (K : PySem.W.Frag) (P : Program) (w : World) : List V → Hp → VK → Prop := fun vs H Q => ∃ (l : Addr) (xs : List V) (us : List (Int × Int)), vs = [V.ref l] ∧ SqL K H l xs ∧ DpAll K H xs (us.map dP) ∧ us.length < 64 ∧
  ∀ a L H2, H a = none → (∀ o, G o H H2) → H2 a = some (SetTO P w a L) → (∀ p ∈ L, SqT K H2 p.1 (p.2.map V.int)) → (∀ ns, ns ∈ L.map (·.2) ↔ ∃ u ∈ us, ns = [u.1, u.2]) → Q (.ref a) H2
theorem cr_setPN (hc : X.calm = true) (hu : X.A.units + 64 < cLine) : CallR X (.type "set") (rSetPN X.K X.prog X.w) := CallR.weak (cr_setOfT hc hu) fun vs H Q h => by
  obtain ⟨l, xs, us, e, hl, hd, hz, q⟩ := h
  obtain ⟨ks, rfl, h1, h2⟩ := ks_of hd
  have hz' : ks.length = us.length := by
    have := congrArg List.length h2
    simpa using this
  refine ⟨l, ks, e, hl, h1, by omega, fun a L ha s1 s2 => ?_⟩
  refine q a L _ ha (fun _ => G.alloc ha) upd_same (fun p hp => sqT_t ((G.alloc (o := none) ha).tups) (h1 p (s1 p hp))) fun ns => ?_
  have mem : ∀ ns, ns ∈ ks.map (·.2) ↔ ∃ u ∈ us, ns = [u.1, u.2] := fun ns => by
    rw [h2, List.mem_map]
    exact ⟨fun ⟨u, a, b⟩ => ⟨u, a, b.symm⟩, fun ⟨u, a, b⟩ => ⟨u, a, b.symm⟩⟩
  rw [← mem]
  constructor
  · intro h
    obtain ⟨p, hp, rfl⟩ := List.mem_map.mp h
    exact List.mem_map.mpr ⟨p, s1 p hp, rfl⟩
  · intro h
    obtain ⟨p, hp, rfl⟩ := List.mem_map.mp h
    exact s2 p hp
theorem code_lt {u v : Int × Int} (hu : in64 u) (hv : in64 v) (h : TS.code 64 [u.1, u.2] ≤ TS.code 64 [v.1, v.2]) : ltW u v ∨ u = v := by
  unfold in64 at hu hv
  rw [code_pair, code_pair] at h
  unfold ltW
  by_cases e : u.1 = v.1
  · by_cases e2 : u.2 = v.2
    · exact .inr (Prod.ext e e2)
    · exact .inl (.inr ⟨e, by omega⟩)
  · exact .inl (.inl (by omega))
/-- sorted(s), s a set of pairs of small ints -/
def rSortSN (K : PySem.W.Frag) (P : Program) (w : World) : List V → Hp → VK → Prop := fun vs H Q => ∃ (a : Addr) (L : List (Addr × List Int)) (us : List (Int × Int)), vs = [V.ref a] ∧ H a = some (SetTO P w a L) ∧ (∀ p ∈ L, SqT K H p.1 (p.2.map V.int)) ∧ (∀ ns, ns ∈ L.map (·.2) ↔ ∃ u ∈ us, ns = [u.1, u.2]) ∧ (∀ u ∈ us, in64 u) ∧
  ∀ ws : List (Int × Int), ws.Pairwise ltW → (∀ u, u ∈ ws ↔ u ∈ us) → ws.length < 64 → ∀ p H2 ys, H p = none → (∀ o, G o H H2) → H2 p = some (.lst ys) → DpAll K H2 ys (ws.map dP) → Q (.ref p) H2
theorem cr_sortSN (hc : X.calm = true) : CallR X (.builtin "sorted") (rSortSN X.K X.prog X.w) := CallR.weak (cr_sortedT hc) fun vs H Q h => by
  obtain ⟨a, L, us, e, ha, hk, hm, hb, q⟩ := h
  have get : ∀ p ∈ L, ∃ u ∈ us, p.2 = [u.1, u.2] := fun p hp => (hm p.2).mp (List.mem_map.mpr ⟨p, hp, rfl⟩)
  refine ⟨a, L, 2, 64, e, ha, hk, by decide, fun p hp => ?_, fun L' p pm nd few pw hp => ?_⟩
  · obtain ⟨u, hu, e⟩ := get p hp
    have b := hb u hu
    unfold in64 at b
    rw [e]
    refine ⟨rfl, ?_⟩
    intro n hn
    rcases List.mem_cons.mp hn with e | hn
    · subst e; exact ⟨b.1.1, b.1.2⟩
    · have : n = u.2 := by simpa using hn
      subst this; exact ⟨b.2.1, b.2.2⟩
  · have get' : ∀ p ∈ L', ∃ u ∈ us, p.2 = [u.1, u.2] := fun p hp => get p (pm.mem_iff.mp hp)
    -- the pairs in their order
    have ws_of : ∀ M : List (Addr × List Int), (∀ p ∈ M, p ∈ L') → ∃ ws : List (Int × Int), M.map (·.2) = (ws.map fun u => [u.1, u.2]) ∧ (∀ u ∈ ws, u ∈ us) := by
      intro M
      induction M with
      | nil => exact fun _ => ⟨[], rfl, (fun _ h => nomatch h)⟩
      | cons p M ih =>
        intro hM
        obtain ⟨ws, h1, h2⟩ := ih fun p hp => hM p (List.mem_cons_of_mem _ hp)
        obtain ⟨u, hu, e⟩ := get' p (hM p List.mem_cons_self)
        refine ⟨u :: ws, by rw [List.map_cons, List.map_cons, h1, e], fun v hv => ?_⟩
        rcases List.mem_cons.mp hv with z | z
        · rw [z]; exact hu
        · exact h2 v z
    obtain ⟨ws, e1, e2⟩ := ws_of L' fun _ h => h
    have len : L'.length = ws.length := by
      have := congrArg List.length e1
      simpa using this
    have inj : ∀ u v : Int × Int, ([u.1, u.2] : List Int) = [v.1, v.2] → u = v := fun u v h => by
      injection h with h1 h2
      injection h2 with h2 _
      exact Prod.ext h1 h2
    have pw2 : (L'.map (·.2)).Pairwise (fun x y => TS.code 64 x ≤ TS.code 64 y) := List.pairwise_map.mpr pw
    rw [e1] at pw2 nd
    have asc : ws.Pairwise ltW := by
      rw [List.pairwise_map] at pw2
      have nd' : ws.Nodup := (List.pairwise_map.mp nd).imp fun h e => h (by rw [e])
      exact (List.pairwise_iff_getElem.mpr fun i j hi hj hij => by
        have h1 := List.pairwise_iff_getElem.mp pw2 i j hi hj hij
        have h2 := List.pairwise_iff_getElem.mp nd' i j hi hj hij
        rcases code_lt (hb _ (e2 _ (List.getElem_mem hi))) (hb _ (e2 _ (List.getElem_mem hj))) h1 with z | z
        · exact z
        · exact absurd z h2)
    refine q ws asc (fun u => ⟨e2 u, fun hu => ?_⟩) (by omega) p _ _ hp (fun _ => G.alloc hp) upd_same ?_
    · have h1 : ([u.1, u.2] : List Int) ∈ L.map (·.2) := (hm _).mpr ⟨u, hu, rfl⟩
      have h2 : ([u.1, u.2] : List Int) ∈ L'.map (·.2) := (pm.map (·.2)).mem_iff.mpr h1
      rw [e1, List.mem_map] at h2
      obtain ⟨v, hv, e⟩ := h2
      rw [← inj _ _ e]; exact hv
    · have t : Ts H (upd H p (.lst (L'.map fun q => V.ref q.1))) := (G.alloc (o := none) hp).tups
      have hk' : ∀ q ∈ L', SqT X.K _ q.1 (q.2.map V.int) := fun q hq => sqT_t t (hk q (pm.mem_iff.mp hq))
      exact dp_ks L' ws hk' e1
/-- sorted(l), l a list of pairs of small ints -/
def rSortPN (K : PySem.W.Frag) : List V → Hp → VK → Prop := fun vs H Q => ∃ (a : Addr) (xs : List V) (us : List (Int × Int)), vs = [V.ref a] ∧ SqL K H a xs ∧ DpAll K H xs (us.map dP) ∧ us.length < 64 ∧ (∀ u ∈ us, in64 u) ∧
  ∀ us' : List (Int × Int), us'.Perm us → us'.Pairwise (fun u v => ltW u v ∨ u = v) → ∀ p H2 ys, H p = none → (∀ o, G o H H2) → H2 p = some (.lst ys) → DpAll K H2 ys (us'.map dP) → Q (.ref p) H2
theorem cr_sortPN : CallR X (.builtin "sorted") (rSortPN X.K) := by
  classical
  intro pins s σ H vs us0 Q I r h
  obtain ⟨a, xs, us, rfl, hs, hd, hz, hb, q⟩ := h
  have uniq : ∀ {v : V} {u u' : Int × Int}, Dp X.K H v (dP u) → Dp X.K H v (dP u') → u = u' := fun {v u u'} h h' => by
    obtain ⟨a, rfl, ha⟩ := dp_dP h
    obtain ⟨a', e, ha'⟩ := dp_dP h'
    cases e
    have z := I.tuple_inj ha ha'
    injection z with z1 z2
    injection z2 with z2 _
    exact Prod.ext (V.int.inj z1) (V.int.inj z2)
  let f : V → Int × Int := fun v => if h : ∃ u, Dp X.K H v (dP u) then h.choose else (0, 0)
  have fv : ∀ {v : V} {u : Int × Int}, Dp X.K H v (dP u) → f v = u := fun {v u} h => by
    have hx : ∃ u, Dp X.K H v (dP u) := ⟨u, h⟩
    have : f v = hx.choose := dif_pos hx
    rw [this]
    exact uniq hx.choose_spec h
  have all : ∀ {ys : List V} {ws : List (Int × Int)}, DpAll X.K H ys (ws.map dP) → ws = ys.map f := by
    intro ys ws h
    induction ws generalizing ys with
    | nil => cases h; rfl
    | cons w ws ih =>
      cases h with
      | cons h t => rw [List.map_cons, fv h, ← ih t]
  have e0 := all hd
  have at_ : ∀ y ∈ xs, ∃ u ∈ us, Dp X.K H y (dP u) := fun y hy => by
    obtain ⟨i, hi⟩ := List.getElem?_of_mem hy
    obtain ⟨d, hd1, hd2⟩ := DpAll.get hd hi
    rw [List.getElem?_map] at hd1
    obtain ⟨u, hu, rfl⟩ := Option.map_eq_some_iff.mp hd1
    exact ⟨u, List.mem_of_getElem? hu, hd2⟩
  refine cr_sortT (d := 2) (B := 64) (by decide) pins s σ H _ us0 Q I r ⟨a, xs, rfl, hs, by rw [DpAll.length hd, List.length_map]; exact hz, fun x hx => ?_, fun ys p pm pw hp => ?_⟩
  · obtain ⟨u, hu, hx⟩ := at_ x hx
    obtain ⟨t, rfl, ht⟩ := dp_dP hx
    have b := hb u hu
    unfold in64 at b
    refine ⟨[u.1, u.2], ⟨t, rfl, ht⟩, rfl, ?_⟩
    intro n hn
    rcases List.mem_cons.mp hn with e | hn
    · subst e; exact ⟨b.1.1, b.1.2⟩
    · have : n = u.2 := by simpa using hn
      subst this; exact ⟨b.2.1, b.2.2⟩
  · have aty : ∀ y ∈ ys, ∃ u ∈ us, Dp X.K H y (dP u) := fun y hy => at_ y (pm.mem_iff.mp hy)
    have t : Ts H (upd H p (.lst ys)) := (G.alloc (o := none) hp).tups
    refine q (ys.map f) (by rw [e0]; exact pm.map f) ?_ p _ ys hp (fun _ => G.alloc hp) upd_same ?_
    · rw [List.pairwise_map]
      refine pw.imp_of_mem fun {y z} hy hz2 h => ?_
      obtain ⟨u, hu, h1⟩ := aty y hy
      obtain ⟨v, hv, h2⟩ := aty z hz2
      rw [fv h1, fv h2]
      obtain ⟨t1, rfl, k1⟩ := dp_dP h1
      obtain ⟨t2, rfl, k2⟩ := dp_dP h2
      exact code_lt (hb u hu) (hb v hv) (h _ _ ⟨t1, rfl, k1⟩ ⟨t2, rfl, k2⟩)
    · refine dpAll_t t _ _ (nls_pairs _) ?_
      clear pm pw hp t
      induction ys with
      | nil => exact .nil
      | cons y ys ih =>
        obtain ⟨u, hu, h1⟩ := aty y List.mem_cons_self
        refine .cons ?_ (ih fun y hy => aty y (List.mem_cons_of_mem _ hy))
        rw [fv h1]; exact h1
/-- t + u, tuples -/
def rCatN (K : PySem.W.Frag) : R2 := fun x y H Q => ∃ a b xs ys, x = .ref a ∧ y = .ref b ∧ SqT K H a xs ∧ SqT K H b ys ∧ xs.length + ys.length ≤ 100000 ∧ ∀ p H2, (∀ o, G o H H2) → SqT K H2 p (xs ++ ys) → Q (.ref p) H2
theorem op_catN : OpR X (binaryOp .Add) (rCatN X.K) := OpR.weak op_catA fun x y H Q h => by
  obtain ⟨a, b, xs, ys, e1, e2, h1, h2, hz, q⟩ := h
  refine ⟨a, b, xs, ys, e1, e2, h1, h2, sz hz, fun e => ?_, fun _ e => ?_, fun _ _ p hp => ?_⟩
  · subst e; exact q b H (fun _ => G.refl) h2
  · subst e; exact q a H (fun _ => G.refl) (by rw [List.append_nil]; exact h1)
  · exact q p _ (fun _ => G.alloc hp) (SqT.of upd_same)
end
end GA
/-! ## GG -/
namespace PySem.W
open PySem PySem.Spec PySem.Calls PyProof.Rows
open Builtin
section
variable {prog : Program} {w : World} {A : Around} {E : Value → Shared → Prop} {K : Frag} {x C L f : Addr} {h₀ hh : Heap} {g : Array GenState} {d : Drawn} {t : Nat} {os : OsState} {m : Str → Option Value} {ox : Obj} {od : Option Obj} {b tb : Value}
theorem ga_ifBound_ne {M : Model} {args : List Value} {Q : Option Value → Shared → Prop} (X : K.In hh) (I : InstAt hh x ox C od) (hs : findIn K (.ref C) "__ne__" = some (some (.builtin "object.__ne__")))
    (h : wpAny M A (call (.builtin "object.__ne__") (.ref x :: args)) (fun v => Q (some v)) E ⟨hh, g, d, t, os⟩) : wpAny M A (callSpecialIfBound? (.ref x) "__ne__" args) Q E ⟨hh, g, d, t, os⟩ := by
  simp only [callSpecialIfBound?, bindSpecialIfBound?]
  refine wpAny_holding (wpAny_bind (wpAny_bind (wpAny_bind (I.type.here ((looks_findIn X hs).here ?_)))))
  simp only [F.cmp_object.ne.bind]
  refine wpAny_bind (wpAny_askSetting (wpAny_ite ?_))
  have fin : wpAny M A (call (.builtin "object.__ne__") ([.ref x] ++ args) >>= fun v => pure (some v)) Q E ⟨hh, g, d, t, os⟩ :=
    wpAny_bind (wpAny_mono h (fun v s' h' => wpAny_pure h') fun _ _ h' => h')
  split
  · first
      | exact wpAny_bind (wpAny_pure (wpAny_pure fin))
      | exact wpAny_pure (wpAny_pure fin)
      | exact wpAny_pure fin
      | exact wpAny_bind (wpAny_pure fin)
  · first
      | exact wpAny_tryCatch (wpAny_bind (wpAny_pure (wpAny_pure fin)))
      | exact wpAny_tryCatch (wpAny_pure (wpAny_pure fin))
      | exact wpAny_tryCatch (wpAny_pure fin)
      | exact wpAny_tryCatch (wpAny_bind (wpAny_pure fin))
theorem ga_check_ne {M : Model} {rest : List Value} {Q : Unit → Shared → Prop} (X : K.In hh) (I : InstAt hh x ox C od) (hm : mroIn K C (.type "object") = some true) (ha : argsOk "object.__ne__" ⟨.ref x :: rest, []⟩) (hq : Q () ⟨hh, g, d, t, os⟩) :
    wpAny M A (checkBuiltinCall "object.__ne__" ⟨.ref x :: rest, []⟩) Q E ⟨hh, g, d, t, os⟩ := by
  simp only [checkBuiltinCall, F.cmpKind_ne, F.cmpSplit_ne]
  refine wpAny_bind ?_
  unfold isInstance
  refine wpAny_bind (I.type.here ((looks_mroIn X hm).here ?_))
  simp only [Bool.not_true, Bool.false_eq_true, if_false]
  cases hsig : Manifest.signature? "object.__ne__" with
  | none => exact wpAny_pure hq
  | some sig =>
    simp only [argsOk, hsig] at ha
    have h2 : Bind.checkArgs "object.__ne__" sig ⟨.ref x :: rest, []⟩ = pure () := ha
    show wpAny M A (Bind.checkArgs "object.__ne__" sig ⟨.ref x :: rest, []⟩) Q E _
    rw [h2]; exact wpAny_pure hq
theorem ga_ne_body (X : K.In hh) (I : InstAt hh x ox C od) (hs : findIn K (.ref C) "__eq__" = some (some (.ref f))) (hf : isFn K (.ref f) = true) (hu : A.units < cLine) {Q : Fin → Shared → Prop}
    (h : wpAny (model prog w) A (call (.ref f) [.ref x, b]) (fun v s' => ∃ r, v = .bool r ∧ Q (.done (.ret (.bool (!r)))) s') E ⟨hh, g, d, t, os⟩) :
    wpAny (model prog w) A (Builtin.«object.__ne__» ⟨[.ref x, b], []⟩) Q E ⟨hh, g, d, t, os⟩ := by
  unfold Builtin.«object.__ne__»
  repeat (first
    | with_reducible refine wpAny_cRoomFor hu ?_
    | (refine wpAny_bind (m := callSpecialIfBound? (.ref x) (Str.ofString "__eq__") [b])
        (ifBound_K X I hs hf (wpAny_mono h (fun r s' hr => by
          obtain ⟨q, rfl, hq⟩ := hr
          repeat (first | exact hq | exact wpAny_pure hq | exact wpAny_truthy_bool hq | (refine wpAny_bind (m := truthy (.bool _)) (wpAny_truthy_bool ?_)) | wp_step)) fun _ _ e => e)))
    | wp_step)
theorem ga_ne_K {Q : Value → Shared → Prop} (hu : A.units + 1 < cLine) (F : Fr h₀ L hh m) (X₀ : K.In h₀) (I : InstAt hh x ox C od) (hb : Looks (model prog w) hh (typeOf b) tb) (hn : notFirst K C tb = true)
    (hs : findIn K (.ref C) "__eq__" = some (some (.ref f))) (hf : isFn K (.ref f) = true) (hne : findIn K (.ref C) "__ne__" = some (some (.builtin "object.__ne__"))) (hm : mroIn K C (.type "object") = some true)
    (h : wpAny (model prog w) A.in1 (call (.ref f) [.ref x, b]) (fun v s' => ∃ r, v = .bool r ∧ Q (.bool (!r)) s') E ⟨hh, g, d, t, os⟩) : wpAny (model prog w) A (richCompare .NotEq (.ref x) b) Q E ⟨hh, g, d, t, os⟩ := by
  have X := X₀.keeps F.keep
  have one : wpAny (model prog w) A (tryCompare (.ref x) (cmpInfo .NotEq).2.1 b) (fun r s' => ∃ v, r = some v ∧ Q v s') E ⟨hh, g, d, t, os⟩ := by
    rw [cmpInfo_NotEq]
    unfold tryCompare
    refine wpAny_bind (ga_ifBound_ne X I hne (wpAny_call (codeAny_call_builtin PySem.F.cmp_object.ne.plain PySem.F.cmpEntry_ne
      (ga_check_ne X I hm (PySem.F.cmpArgs_ne _ _) (ga_ne_body (A := A.in1) X I hs hf hu (wpAny_mono h (fun v s' hv => ?_) fun _ _ e => e))))))
    obtain ⟨r, rfl, hq⟩ := hv
    first | exact ⟨r, rfl, wpAny_pure ⟨_, rfl, hq⟩⟩ | exact ⟨r, rfl, wpAny_pure (wpAny_pure ⟨_, rfl, hq⟩)⟩
  unfold richCompare
  simp only [oneThing_ref]
  refine wpAny_holding (wpAny_bind (wpAny_cRoomFor (Nat.lt_of_succ_lt hu) ?_))
  refine wpAny_bind (I.type.here (wpAny_bind (hb.here ?_)))
  split
  · rename_i q
    have e : subIn K tb (.ref C) = some false := by
      rcases Bool.or_eq_true_iff.mp hn with e | e
      · rw [beq_iff_eq.mp e] at q; simp at q
      · exact beq_iff_eq.mp e
    refine wpAny_bind ((looks_subIn X e).here ?_)
    simp only [Bool.false_eq_true, if_false]
    refine wpAny_bind (wpAny_mono one (fun r s' z => ?_) fun _ _ e => e)
    obtain ⟨v, rfl, hq⟩ := z
    exact wpAny_pure hq
  · refine wpAny_bind (wpAny_pure ?_)
    simp only [Bool.false_eq_true, if_false]
    refine wpAny_bind (wpAny_mono one (fun r s' z => ?_) fun _ _ e => e)
    obtain ⟨v, rfl, hq⟩ := z
    exact wpAny_pure hq
end
end PySem.W
namespace GA
open PySem PySem.Spec PyProof.Rows L2
section
variable {X : Cx} {n : Nat}
/-- x != y of two instances whose own == says True -/
def rNeG (D : Eqv) : R2 := fun x y H Q => D x y H ∧ ∀ H', Ext H H' → Q (.bl false) H'
theorem op_neG {CX : CXT} {C f : Addr} {fd : FuncData} {ps : List Str} {R : Addr → Addr → Hp → Prop} {E : XK} (F : FnOk X.prog X.w X.K X.mg X.base CX n f fd ps (spEq R))
    (hs : PySem.W.findIn X.K (.ref C) "__eq__" = some (some (.ref f))) (hf : PySem.W.isFn X.K (.ref f) = true) (hb : Binds X.K fd ps []) (hx : Passes CX X E)
    (hne : PySem.W.findIn X.K (.ref C) "__ne__" = some (some (.builtin "object.__ne__"))) (hm : PySem.W.mroIn X.K C (.type "object") = some true) (rm : Room (n + 1) X.A) : OpR X (compareOp .NotEq) (rNeG (DIns C R)) := by
  intro pins s σ H x y u v Q I rx ry hq
  obtain ⟨⟨a, b, dx, dy, fs, gs, rfl, rfl, ha, hb', hr⟩, q⟩ := hq
  cases rx
  cases ry
  obtain ⟨mA, J, _⟩ := ins_get I.hok ha
  obtain ⟨mB, J', _⟩ := ins_get I.hok hb'
  obtain ⟨od, J, _⟩ := J.look
  obtain ⟨od', J', _⟩ := J'.look
  obtain ⟨m, hF⟩ := I.fr
  have rm1 : Room n X.A.in1 := rm.in1
  show wpAny (model X.prog X.w) X.A (richCompare .NotEq (.ref a) (.ref b)) (EP X pins σ Q) X.xe s
  refine PySem.W.ga_ne_K (tb := .ref C) rm1.units0 hF I.ok.mod.kin J J'.type (by simp [PySem.W.notFirst]) hs hf hne hm ?_
  have hsp : spEq R [.ref a, .ref b] H (fun v H' => v = .bl true ∧ Ext H H') E := ⟨a, b, rfl, hr, fun H' e => ⟨rfl, e⟩⟩
  have e0 : Env0 X.prog X.w X.K X.mg X.base X.A.in1 X.stack s H := ⟨I.env0.frames, I.env0.mod, I.env0.bs, I.env0.bsz, I.env0.funs, I.env0.frf, I.env0.hok, I.env0.bare⟩
  have hl := F.len _ _ _ _ hsp
  have r2 : Vals [V.ref a, V.ref b] [Value.ref a, Value.ref b] := .cons rfl (.cons rfl .nil)
  refine wpAny_call (codeAny_mono (F.run X.A.in1 X.stack s H ⟨[.ref a, .ref b], []⟩ [.ref a, .ref b] [.ref a, .ref b] _ E rm1 e0 (by
    have := hb s [.ref a, .ref b] I.kIn (by simpa using hl)
    simpa using this) r2 hsp) fun r s' hq => ?_)
  cases r with
  | error e => exact hx pins σ H s e s' I hq
  | ok fl =>
    cases fl with
    | ret w =>
      obtain ⟨z, H', I', rz, ez, ex⟩ := I.after hq
      subst ez
      cases rz
      exact ⟨true, rfl, .bl false, H', I', rfl, q H' ex⟩
    | next => exact False.elim hq
    | brk => exact False.elim hq
    | cont => exact False.elim hq
end
end GA
/-! ## GH -/
namespace L2
open PySem PySem.Spec PyProof.Rows
/-- the set as it is laid, and the heap with it -/
abbrev eset (w : World) : Obj := { cls := .type "set", dict := none, data := .set #[] 0 (.fresh 0 0 (!w.params.followText "set-order")) }
abbrev eheap (w : World) (h : Heap) : Heap := h.push (eset w)
section
variable {P : Program} {w : World} {A : Around} {E : Value → Shared → Prop} {s : Shared}
theorem gone_above {h : Heap} {b : Addr} (hb : h.objs.size ≤ b) : h.get? b = none := by
  cases q : h.get? b with
  | none => rfl
  | some o => exact absurd (Heap.lt_size q) (Nat.not_lt.mpr hb)
/-- set(t), t a tuple whose items are tuples of ints -/
theorem ga_set_of_tuple {l : Addr} {its : Array Value} (ks : List (Addr × List Int)) {Q : Value → Shared → Prop} (quiet : A.handled = none) (hl : s.heap.IsTuple l its) (hit : its.toList = ks.map fun p => Value.ref p.1)
    (hk : ∀ p ∈ ks, IsT P w s.heap p.2 p.1) (few : ks.length < 64) (un : A.units + 3 < cLine)
    (q : ∀ (h' : Heap) (tk : Nat) L es ep t, SetTR P w h' s.heap.objs.size L es ep t → Got ks ks.length L → (∀ b o, s.heap.get? b = some o → h'.get? b = some o) → Q (.ref s.heap.objs.size) { s with heap := h', toks := tk }) :
    wpAny (model P w) A (call (.type "set") [.ref l]) Q E s := by
  have isz : its.size = ks.length := by simpa using congrArg List.length hit
  have C := F.called_set
  obtain ⟨c, tl, m1⟩ := C.mro
  have m2 := C.made
  have m3 := C.sub
  have m4 := C.notType
  have m5 := C.canCreate
  have m6 := F.typeCall_set_1 (.ref l)
  refine wpAny_call (codeAny_of_tree (?_ : wpAny _ _ (callAny (.type "set") _) _ _ _))
  refine wpAny_pure ⟨Code.quiet_builtin _ (by decide +kernel), codeAny_builtin F.entry_type_call ?_⟩
  rw [Around.under_plain (weight_type_call_type "set" [.ref l] []) rfl]
  repeat (any_goals (first | assumption | wp_step))
  refine codeAny_mono (code_set_led1 (.ref l) (E := E) (Q₁ := fun ob s1 => ob = .ref s.heap.objs.size ∧ s1 = { s with heap := eheap w s.heap }) ⟨rfl, rfl⟩) fun r s1 hr => ?_
  match r, hr with
  | .error e, hr => exact hr
  | .ok .next, hr => exact hr.elim
  | .ok .brk, hr => exact hr.elim
  | .ok .cont, hr => exact hr.elim
  | .ok (.ret ob), hr =>
    obtain ⟨e1, e2⟩ := hr
    subst e1 e2
    have at0 : (eheap w s.heap).get? s.heap.objs.size = some (eset w) := Heap.get?_push_size _ rfl
    have ty0 : Shared.TypeIs { s with heap := eheap w s.heap } (.ref s.heap.objs.size) "set" := ⟨_, at0, rfl⟩
    have m7 := C.init.lookup
    have m8 := C.init.bind (.ref s.heap.objs.size)
    repeat (any_goals (first | assumption | wp_step))
    refine codeAny_mono (codeAny_call_builtin (R := wants (fun r s2 => r = .none ∧ ∃ h' tk L es ep t, s2 = { s with heap := h', toks := tk } ∧ SetTR P w h' s.heap.objs.size L es ep t ∧ Got ks ks.length L ∧
      (∀ b o, s.heap.get? b = some o → h'.get? b = some o)) E) C.init.plain F.entry_set_init (check_set_init_1 ty0 ?_)) fun r2 s2 hr2 => ?_
    · have hl1 : (eheap w s.heap).IsTuple l its := hl.push _
      obtain ⟨⟨oc, od, odt, osl⟩, ho, e1, nl, e2⟩ := id hl1
      simp only at e1 e2
      subst e1 e2
      have lS : l < s.heap.objs.size := by
        obtain ⟨o, h, _⟩ := hl
        exact Heap.lt_size h
      have n1 := F.sub_tuple_set
      have n2 := F.sub_tuple_frozenset
      have n3 : (Value.type "tuple" == Value.type "dict") = false := by decide
      have z1 : (eheap w s.heap).objs.size = s.heap.objs.size + 1 := Heap.size_push ..
      have nI : l ≠ (eheap w s.heap).objs.size := by
        rw [z1]; exact Nat.ne_of_lt (Nat.lt_succ_of_lt lS)
      unfold Builtin.«set.__init__» noKeywords Builtin.Frozenset.updateFrom
      generalize hpi : pyIter = PI
      wp_walk
      subst hpi
      refine wpAny_pyIter_tuple hl1 (wpAny_bind (wpAny_runValue ?_))
      have val : ∀ (i : Nat) (v : Value), its[i]? = some v → ∃ p, ks[i]? = some p ∧ v = .ref p.1 := fun i v hv => by
        have z : (ks.map fun p => Value.ref p.1)[i]? = some v := by rw [← hit, Array.getElem?_toList]; exact hv
        rw [List.getElem?_map] at z
        obtain ⟨p, hp, e⟩ := Option.map_eq_some_iff.mp z
        exact ⟨p, hp, e.symm⟩
      refine set_update_tups ((Walks.tuple (by simp [quiet]) _ l nI its).toS) s.heap.objs.size ?f1 ks isz few val s.heap hk (gone_above (Nat.le_refl _)) ?f2 (by simp; omega) (its.size - 0) 0 _ (by omega) (Nat.zero_le _)
        ⟨⟨_, Heap.get?_push_size _ rfl, rfl, rfl⟩, hl1.push _⟩ (fun b o e => Heap.get?_push_of_some _ (Heap.get?_push_of_some _ e)) ?f3 ?f4
      case f1 =>
        rw [z1]
        simp only [List.mem_cons, List.not_mem_nil, or_false, not_or]
        exact ⟨Nat.ne_of_lt (Nat.lt_succ_self _), Nat.ne_of_gt lS⟩
      case f2 =>
        intro b hb
        refine gone_above ?_
        rw [List.mem_singleton.mp hb, z1]
        exact Nat.le_succ _
      case f3 => exact ⟨[], #[], 0, _, setTR_fresh (Heap.get?_push_of_some _ at0), Got.zero ks⟩
      case f4 =>
        rintro ⟨h', g2, d', tk', os'⟩ L es ep t mv R got kp
        obtain rfl : g2 = s.gens := mv.gens
        obtain rfl : d' = s.drawn := mv.drawn
        obtain rfl : os' = s.os := mv.os
        rw [isz] at got
        exact wpAny_pure (wpAny_pure ⟨rfl, h', tk', L, es, ep, t, rfl, R, got, kp⟩)
    · match r2, hr2 with
      | .error e, hr2 => exact hr2
      | .ok .next, hr2 => exact hr2.elim
      | .ok .brk, hr2 => exact hr2.elim
      | .ok .cont, hr2 => exact hr2.elim
      | .ok (.ret z), hr2 =>
        obtain ⟨e3, h', tk, L, es, ep, t, e4, R, got, kp⟩ := hr2
        subst e3 e4
        repeat (any_goals (first | assumption | wp_step))
        exact q _ _ _ _ _ _ R got kp
end
end L2
/-! ## GI -/
namespace GA
open PySem PySem.Spec PyProof.Rows L2
/-! ### a list of pairs being filled -/
def Fil (K : PySem.W.Frag) (o : Option (Addr × Addr)) (H0 H : Hp) (D : Addr) (us : List (Int × Int)) : Prop := G o H0 H ∧ ∃ xs, H D = some (.lst xs) ∧ DpAll K H xs (us.map dP)
section
variable {K : PySem.W.Frag} {o : Option (Addr × Addr)} {H0 H H1 H' : Hp} {D : Addr} {us : List (Int × Int)}
theorem back_none (g : G none H0 H1) (h : H1 D = none) : H0 D = none := by
  cases c : H0 D with
  | none => rfl
  | some u => rw [g.all _ _ c] at h; cases h
theorem Fil.nil (g : G o H0 H1) (h0 : H0 D = none) (hh : ∀ p, o = some p → Hand H0 p.1 p.2) : Fil K o H0 (upd H1 D (.lst [])) D [] := ⟨g.mut h0 hh, [], upd_same, .nil⟩
theorem Fil.g (f : Fil K o H0 H D us) (g : G o H H') (off : Off o D) : Fil K o H0 H' D us := by
  obtain ⟨g0, xs, h1, h2⟩ := f
  exact ⟨g0.trans g, xs, g.keep _ _ off h1, dpAll_t g.tups _ _ (nls_pairs us) h2⟩
theorem Fil.app (f : Fil K o H0 H D us) (h0 : H0 D = none) (hh : ∀ p, o = some p → Hand H0 p.1 p.2) {v : V} {u : Int × Int} (hv : Dp K H v (dP u)) (hz : us.length ≤ 90000) :
    ∃ acc, H D = some (.lst acc) ∧ acc.length < sizeLine ∧ Fil K o H0 (upd H D (.lst (acc ++ [v]))) D (us ++ [u]) := by
  obtain ⟨g0, xs, h1, h2⟩ := f
  have t : Ts H (upd H D (.lst (xs ++ [v]))) := Ts.updl h1
  have l2 := DpAll.length h2
  rw [List.length_map] at l2
  refine ⟨xs, h1, Nat.lt_of_le_of_lt (by omega : xs.length ≤ 90000) (by decide), g0.mut h0 hh, _, upd_same, ?_⟩
  rw [List.map_append]
  exact DpAll.app (dpAll_t t _ _ (nls_pairs us) h2) (DpAll.one (dp_t t _ _ (nl_dP u) hv))
end
/-! ### two for -/
section
variable {J J1 : It} {n n1 : Nat} {Gd G1 : Hp → Prop} {Y Y1 : Nat → Hp → V → Hp → Prop} {g g1 : TG} {tt tt1 : TT} {te : TE} {wi1 : TI} {vs vs1 : List Nat} {σ σ2 : L2.St} {H1 H4 : Hp} {D : Addr} {Qd Nx : Hp → Prop}
theorem lc2_it (w : Walk J n Gd Y) (Pv : Nat → Hp → Prop) (h0 : Pv 0 (upd H1 D (.lst []))) (hG : ∀ i H, i ≤ n → Pv i H → Gd H)
    (hs : ∀ i x H H', i < n → Pv i H → Y i H x H' → g x (wipe σ vs) H' fun σ2 H2 => wipe σ2 vs = wipe σ vs ∧ tt σ2 H2 fun b H3 =>
      if b = true then wi1 σ2 H3 fun J1 H4 => ∃ W1 : Nat → Nat → Hp → Prop, (∃ m, W1 0 m H4) ∧ ∀ j k H, W1 j k H →
        (J1.stop j H ∧ Pv (i + 1) H) ∨ (J1.go j H ∧ ∃ Nx1 : Hp → Prop, (∀ H', Nx1 H' → ∃ k', k' < k ∧ W1 (j + 1) k' H') ∧ ∀ x H', J1.yld j H x H' → g1 x (wipe σ2 vs1) H' fun σ3 H5 => wipe σ3 vs1 = wipe σ2 vs1 ∧ tt1 σ3 H5 fun b H6 =>
          if b = true then te σ3 H6 fun y H7 => ∃ acc, H7 D = some (.lst acc) ∧ acc.length < sizeLine ∧ Nx1 (upd H7 D (.lst (acc ++ [y]))) else Nx1 H6)
      else Pv (i + 1) H3) (hd : ∀ H, Pv n H → Qd H) :
    ∃ W : Nat → Nat → Hp → Prop, (∃ m, W 0 m (upd H1 D (.lst []))) ∧ ∀ i m H, W i m H →
      (J.stop i H ∧ Qd H) ∨ (J.go i H ∧ ∃ Nx : Hp → Prop, (∀ H', Nx H' → ∃ m', m' < m ∧ W (i + 1) m' H') ∧ ∀ x H', J.yld i H x H' → g x (wipe σ vs) H' fun σ2 H2 => wipe σ2 vs = wipe σ vs ∧ tt σ2 H2 fun b H3 =>
        if b = true then wi1 σ2 H3 fun J1 H4 => ∃ W1 : Nat → Nat → Hp → Prop, (∃ m, W1 0 m H4) ∧ ∀ j k H, W1 j k H →
          (J1.stop j H ∧ Nx H) ∨ (J1.go j H ∧ ∃ Nx1 : Hp → Prop, (∀ H', Nx1 H' → ∃ k', k' < k ∧ W1 (j + 1) k' H') ∧ ∀ x H', J1.yld j H x H' → g1 x (wipe σ2 vs1) H' fun σ3 H5 => wipe σ3 vs1 = wipe σ2 vs1 ∧ tt1 σ3 H5 fun b H6 =>
            if b = true then te σ3 H6 fun y H7 => ∃ acc, H7 D = some (.lst acc) ∧ acc.length < sizeLine ∧ Nx1 (upd H7 D (.lst (acc ++ [y]))) else Nx1 H6)
        else Nx H3) := by
  refine ⟨fun i m H => m = n - i ∧ i ≤ n ∧ Pv i H, ⟨n, by simp, Nat.zero_le _, h0⟩, ?_⟩
  rintro i m H ⟨rfl, hi, p⟩
  have q := hG i H hi p
  by_cases c : i < n
  · exact .inr ⟨w.goes i H c q, Pv (i + 1), fun H' p' => ⟨n - (i + 1), by omega, rfl, c, p'⟩, fun x H' y => hs i x H H' c p (w.yields i H x H' c q y)⟩
  · obtain rfl : i = n := by omega
    exact .inl ⟨w.stops H q, hd H p⟩
theorem in_it (w : Walk J1 n1 G1 Y1) (P1 : Nat → Hp → Prop) (h0 : P1 0 H4) (hG : ∀ j H, j ≤ n1 → P1 j H → G1 H)
    (hs : ∀ j x H H', j < n1 → P1 j H → Y1 j H x H' → g1 x (wipe σ2 vs1) H' fun σ3 H5 => wipe σ3 vs1 = wipe σ2 vs1 ∧ tt1 σ3 H5 fun b H6 =>
      if b = true then te σ3 H6 fun y H7 => ∃ acc, H7 D = some (.lst acc) ∧ acc.length < sizeLine ∧ P1 (j + 1) (upd H7 D (.lst (acc ++ [y]))) else P1 (j + 1) H6) (hd : ∀ H, P1 n1 H → Nx H) :
    ∃ W1 : Nat → Nat → Hp → Prop, (∃ m, W1 0 m H4) ∧ ∀ j k H, W1 j k H →
      (J1.stop j H ∧ Nx H) ∨ (J1.go j H ∧ ∃ Nx1 : Hp → Prop, (∀ H', Nx1 H' → ∃ k', k' < k ∧ W1 (j + 1) k' H') ∧ ∀ x H', J1.yld j H x H' → g1 x (wipe σ2 vs1) H' fun σ3 H5 => wipe σ3 vs1 = wipe σ2 vs1 ∧ tt1 σ3 H5 fun b H6 =>
        if b = true then te σ3 H6 fun y H7 => ∃ acc, H7 D = some (.lst acc) ∧ acc.length < sizeLine ∧ Nx1 (upd H7 D (.lst (acc ++ [y]))) else Nx1 H6) := by
  refine ⟨fun i m H => m = n1 - i ∧ i ≤ n1 ∧ P1 i H, ⟨n1, by simp, Nat.zero_le _, h0⟩, ?_⟩
  rintro i m H ⟨rfl, hi, p⟩
  have q := hG i H hi p
  by_cases c : i < n1
  · exact .inr ⟨w.goes i H c q, P1 (i + 1), fun H' p' => ⟨n1 - (i + 1), by omega, rfl, c, p'⟩, fun x H' y => hs i x H H' c p (w.yields i H x H' c q y)⟩
  · obtain rfl : i = n1 := by omega
    exact .inl ⟨w.stops H q, hd H p⟩
theorem w_lc2 {wi : TI} {Q : VK} (q : wi σ H1 fun J H1 => ∀ D, H1 D = none → ∃ W : Nat → Nat → Hp → Prop, (∃ m, W 0 m (upd H1 D (.lst []))) ∧ ∀ i m H, W i m H →
  (J.stop i H ∧ Q (.ref D) H) ∨ (J.go i H ∧ ∃ Nx : Hp → Prop, (∀ H', Nx H' → ∃ m', m' < m ∧ W (i + 1) m' H') ∧ ∀ x H', J.yld i H x H' → g x (wipe σ vs) H' fun σ2 H2 => wipe σ2 vs = wipe σ vs ∧ tt σ2 H2 fun b H3 =>
    if b = true then wi1 σ2 H3 fun J1 H4 => ∃ W1 : Nat → Nat → Hp → Prop, (∃ m, W1 0 m H4) ∧ ∀ j k H, W1 j k H →
      (J1.stop j H ∧ Nx H) ∨ (J1.go j H ∧ ∃ Nx1 : Hp → Prop, (∀ H', Nx1 H' → ∃ k', k' < k ∧ W1 (j + 1) k' H') ∧ ∀ x H', J1.yld j H x H' → g1 x (wipe σ2 vs1) H' fun σ3 H5 => wipe σ3 vs1 = wipe σ2 vs1 ∧ tt1 σ3 H5 fun b H6 =>
        if b = true then te σ3 H6 fun y H7 => ∃ acc, H7 D = some (.lst acc) ∧ acc.length < sizeLine ∧ Nx1 (upd H7 D (.lst (acc ++ [y]))) else Nx1 H6)
    else Nx H3)) : tLc2 wi g tt wi1 g1 tt1 te vs vs1 σ H1 Q := q
end
/-! ### a list or a tuple -/
def iSeq (K : PySem.W.Frag) (te : TE) : TI := fun σ H R => te σ H fun x H1 => ∃ a, x = .ref a ∧ (((∃ xs, SqL K H1 a xs) ∧ R (Itl K a) H1) ∨ ((∃ xs, SqT K H1 a xs) ∧ R (Itt K a) H1))
section
variable {X : Cx}
theorem pi_seq {tg l : Expr} {tl : TE} (hl : PE X l tl) : PI X tg l (iSeq X.K tl) := by
  refine ⟨fun pins s σ H R I h => ?_⟩
  refine thn (hl.run pins s σ H _ I h) fun v s1 ⟨x, H1, I1, r1, a, e, q1⟩ => ?_
  subst e
  cases r1
  rcases q1 with ⟨⟨xs, hq⟩, q⟩ | ⟨⟨xs, hq⟩, q⟩
  · obtain ⟨its, rv, p, _⟩ := I1.list hq
    refine wpAny_pyIter_list p.isList ⟨s1.heap.objs.size, [s1.heap.objs.size], _, _, H1, rfl, I1.kept (t' := s1.toks) fun b o e => Heap.get?_push_of_some _ e, turn_list a _, ⟨_, Heap.get?_push_size _ rfl, rfl, rfl⟩, fun b hb => ?_, q⟩
    obtain rfl : b = s1.heap.objs.size := by simpa using hb
    exact I1.fpOk (Nat.le_refl _) (I1.hok.fresh (Nat.le_refl _))
  · obtain ⟨its, rv, p, _⟩ := I1.tuple hq
    refine wpAny_pyIter_tuple p ⟨s1.heap.objs.size, [s1.heap.objs.size], _, _, H1, rfl, I1.kept (t' := s1.toks) fun b o e => Heap.get?_push_of_some _ e, turn_tuple a _, ⟨_, Heap.get?_push_size _ rfl, rfl, rfl⟩, fun b hb => ?_, q⟩
    obtain rfl : b = s1.heap.objs.size := by simpa using hb
    exact I1.fpOk (Nat.le_refl _) (I1.hok.fresh (Nat.le_refl _))
theorem k_pi_seq (K : PySem.W.Frag) {tg l : Expr} {tl : TE} (hl : PE X l tl) (hK : X.K = K := by rfl) : PI X tg l (iSeq K tl) := by subst hK; exact pi_seq hl
theorem w_iseq {K : PySem.W.Frag} {te : TE} {σ : L2.St} {H : Hp} {R : It → Hp → Prop} (q : te σ H fun x H1 => ∃ a, x = .ref a ∧ (((∃ xs, SqL K H1 a xs) ∧ R (Itl K a) H1) ∨ ((∃ xs, SqT K H1 a xs) ∧ R (Itt K a) H1))) : iSeq K te σ H R := q
/-- set(xs), a list or a tuple of pairs of ints -/
def rSetPA (K : PySem.W.Frag) (P : Program) (w : World) : List V → Hp → VK → Prop := fun vs H Q => ∃ (l : Addr) (xs : List V) (us : List (Int × Int)), vs = [V.ref l] ∧ (SqL K H l xs ∨ SqT K H l xs) ∧ DpAll K H xs (us.map dP) ∧ us.length < 64 ∧
  ∀ a L H2, H a = none → (∀ o, G o H H2) → H2 a = some (SetTO P w a L) → (∀ p ∈ L, SqT K H2 p.1 (p.2.map V.int)) → (∀ ns, ns ∈ L.map (·.2) ↔ ∃ u ∈ us, ns = [u.1, u.2]) → Q (.ref a) H2
theorem cr_setPA (hc : X.calm = true) (hu : X.A.units + 64 < cLine) : CallR X (.type "set") (rSetPA X.K X.prog X.w) := by
  intro pins s σ H vs us0 Q I r h
  obtain ⟨l, xs, us, rfl, hl, hd, hz, q⟩ := h
  rcases hl with hl | hl
  · exact cr_setPN hc hu pins s σ H _ us0 Q I r ⟨l, xs, us, rfl, hl, hd, hz, q⟩
  · obtain ⟨ks, rfl, h1, h2⟩ := ks_of hd
    have hz' : ks.length = us.length := by simpa using congrArg List.length h2
    rw [Vals.ref1 r]
    obtain ⟨its, rv, pl, _⟩ := I.tuple hl
    have hn : H s.heap.objs.size = none := I.hok.fresh (Nat.le_refl _)
    refine ga_set_of_tuple (P := X.prog) (w := X.w) ks (I.ok.hd hc) pl (by simpa using refs_of_vals rv) (fun p hp => I.isT (h1 p hp)) (by omega) (by omega) fun h' tk L es ep t R g k => ?_
    refine ⟨.ref s.heap.objs.size, upd H s.heap.objs.size (SetTO X.prog X.w s.heap.objs.size L), I.laid (t' := tk) k (Nat.le_refl _) (setTO_new R.t0), rfl, q _ L _ hn (fun _ => G.alloc hn) upd_same (fun p hp => sqT_t ((G.alloc (o := none) hn).tups) (h1 p (List.mem_of_mem_take (g.sub p hp)))) fun ns => ?_⟩
    have mem : ns ∈ ks.map (·.2) ↔ ∃ u ∈ us, ns = [u.1, u.2] := by
      rw [h2, List.mem_map]
      exact ⟨fun ⟨u, a, b⟩ => ⟨u, a, b.symm⟩, fun ⟨u, a, b⟩ => ⟨u, a, b.symm⟩⟩
    rw [← mem]
    constructor
    · intro h
      obtain ⟨p, hp, rfl⟩ := List.mem_map.mp h
      exact List.mem_map.mpr ⟨p, List.mem_of_mem_take (g.sub p hp), rfl⟩
    · intro h
      obtain ⟨p, hp, rfl⟩ := List.mem_map.mp h
      exact g.all p (by rw [List.take_length]; exact hp)
/-- t.index(z), t a tuple of ints -/
def rIndexTI (K : PySem.W.Frag) : V → List V → Hp → VK → Prop := fun x xs H Q => ∃ (p : Addr) (ns : List Int) (z : Int) (j : Nat), x = .ref p ∧ xs = [.int z] ∧ SqT K H p (ns.map V.int) ∧ ns[j]? = some z ∧ (∀ m, m < j → ns[m]? ≠ some z) ∧ Q (.int (j : Nat)) H
theorem mt_indexTI : MtR X "tuple.index" (rIndexTI X.K) := by
  intro pins s σ H x xs v us Q I rx rs h
  obtain ⟨p, ns, z, j, rfl, rfl, hq, hy, hno, q⟩ := h
  cases rx
  obtain ⟨u, rfl, t, rfl⟩ := vals1 rs
  obtain ⟨its, r, ⟨⟨cls, dd, dt, sl⟩, ho, hc, n, hd⟩, hz⟩ := I.tuple hq
  simp only at hc hd
  subst hc hd
  have hl : its.toArray.size = ns.length := by rw [List.size_toArray, ← r.length, List.length_map]
  have it : ∀ (m : Nat) (hm : m < its.toArray.size), ∃ y t', ns[m]? = some y ∧ its.toArray[m] = Value.int y t' := fun m hm => by
    have hm' : m < ns.length := by rw [← hl]; exact hm
    obtain ⟨w, hw, t', hw'⟩ := r.get (i := m) (x := .int ns[m]) (by simp [hm'])
    refine ⟨ns[m], t', List.getElem?_eq_getElem hm', ?_⟩
    have e := (List.getElem?_eq_some_iff.mp hw).2
    rw [← hw', ← e]
    simp
  have flat : (ns.map V.int).all flatV = true := by rw [List.all_map, List.all_eq_true]; exact fun _ _ => rfl
  have jl : j < its.toArray.size := by rw [hl]; exact (List.getElem?_eq_some_iff.mp hy).1
  refine call_meets PySem.F.slot_tuple_index ⟨_, ho, rfl⟩ PySem.F.entry_tuple_index (PySem.F.args_tuple_index_2 _ _) (TI.tuple_indexAt p its.toArray n dd sl (.int z t) (eqU (.int z)) j jl ?_ ?_)
    ⟨ho, fun w hw => mem_eqAt (x := .int z) ⟨t, rfl⟩ rfl r flat w (by simpa using hw), ⟨.int (j : Nat), H, I.tok _, ⟨_, rfl⟩, q⟩⟩
  · obtain ⟨y, t', h1, h2⟩ := it j jl
    rw [hy] at h1
    cases h1
    rw [h2]
    exact beq_self_eq_true z
  · intro m hm hmj
    obtain ⟨y, t', h1, h2⟩ := it m hm
    rw [h2]
    have ne : y ≠ z := fun e => hno m hmj (by rw [h1, e])
    exact beq_eq_false_iff_ne.mpr ne
theorem k_mt_indexTI (K : PySem.W.Frag) (hK : X.K = K := by rfl) : MtR X "tuple.index" (rIndexTI K) := by subst hK; exact mt_indexTI
/-- xs + ys, lists -/
def rCatLN : R2 := fun x y H Q => ∃ l b xs zs, x = .ref l ∧ y = .ref b ∧ H l = some (.lst xs) ∧ H b = some (.lst zs) ∧ xs.length + zs.length ≤ 100000 ∧ New H (.lst (xs ++ zs)) fun p H2 => Q (.ref p) H2
theorem op_catLN : OpR X (binaryOp .Add) rCatLN := OpR.weak op_cat fun x y H Q h => by
  obtain ⟨l, b, xs, zs, e1, e2, h1, h2, hz, q⟩ := h
  exact ⟨l, b, xs, zs, e1, e2, h1, h2, sz hz, fun p hp => q.go hp⟩
end
end GA
/-! ## GJ -/
namespace GA
open PySem PySem.Spec PyProof.Rows L2
/-! ### dict(pairs) whose keys are tuples -/
/-- one pair (key, value): where the pair's tuple stands, the key, where the key stands, the value -/
structure DPair where
  at_ : Addr
  key : List L2.Key
  kat : Addr
  val : V
def rDictPT : List V → Hp → VK → Prop := fun xs H Q => ∃ (a : Addr) (L : List DPair), xs = [.ref a] ∧ H a = some (.lst (L.map fun q => V.ref q.at_)) ∧ (∀ q ∈ L, H q.at_ = some (.tup [.ref q.kat, q.val]) ∧ H q.kat = some (.tup (q.key.map kV))) ∧ (L.map fun q => q.key).Nodup ∧ New H (.dT (L.map fun q => (q.key, q.val))) fun p H2 => Q (.ref p) H2
section
variable {X : Cx}
theorem pairs_told {pins : List (Addr × Obj)} {σ : L2.St} {H : Hp} {s : Shared} (I : Inv X pins σ H s) : ∀ (L : List DPair), (∀ q ∈ L, H q.at_ = some (.tup [.ref q.kat, q.val]) ∧ H q.kat = some (.tup (q.key.map kV))) →
    ∃ prs : List (List L2.Key × Addr × Value), Paired (fun (q : DPair) (p : List L2.Key × Addr × Value) => p.1 = q.key ∧ p.2.1 = q.kat ∧ RelV q.val p.2.2 ∧ s.heap.IsTuple q.at_ #[.ref q.kat, p.2.2]) L prs
  | [], _ => ⟨[], .nil⟩
  | q :: L, h => by
    obtain ⟨prs, r⟩ := pairs_told I L fun q' hq => h q' (List.mem_cons_of_mem _ hq)
    obtain ⟨h1, _⟩ := h q List.mem_cons_self
    obtain ⟨_, its, rv, pl⟩ := I.hok q.at_ _ h1
    cases rv with
    | cons r1 r2 =>
      cases r2 with
      | cons r2 r3 =>
        cases r3
        cases r1
        exact ⟨(q.key, q.kat, _) :: prs, .cons ⟨rfl, rfl, r2, pl⟩ r⟩
theorem paired_len {α β : Type} {F : α → β → Prop} : ∀ {l : List α} {m : List β}, Paired F l m → l.length = m.length
  | _, _, .nil => rfl
  | _, _, .cons _ t => by rw [List.length_cons, List.length_cons, paired_len t]
theorem paired_at {α β : Type} {F : α → β → Prop} : ∀ {l : List α} {m : List β} {i : Nat} {y : β}, Paired F l m → m[i]? = some y → ∃ x, l[i]? = some x ∧ F x y
  | _, _, _, _, .nil, e => by simp at e
  | _, _, 0, _, .cons h _, e => by simp at e; subst e; exact ⟨_, rfl, h⟩
  | _, _, i + 1, y, .cons _ t, e => by
    obtain ⟨x, h1, h2⟩ := paired_at (i := i) (y := y) t (by simpa using e)
    exact ⟨x, by simpa using h1, h2⟩
theorem paired_keys {s : Shared} {L : List DPair} {prs : List (List L2.Key × Addr × Value)} (r : Paired (fun (q : DPair) (p : List L2.Key × Addr × Value) => p.1 = q.key ∧ p.2.1 = q.kat ∧ RelV q.val p.2.2 ∧ s.heap.IsTuple q.at_ #[.ref q.kat, p.2.2]) L prs) : prs.map (·.1) = L.map fun q => q.key := by
  induction r with
  | nil => rfl
  | cons h _ ih => rw [List.map_cons, List.map_cons, ih, h.1]
theorem paired_kt {s : Shared} {H : Hp} {L : List DPair} {prs : List (List L2.Key × Addr × Value)} (r : Paired (fun (q : DPair) (p : List L2.Key × Addr × Value) => p.1 = q.key ∧ p.2.1 = q.kat ∧ RelV q.val p.2.2 ∧ s.heap.IsTuple q.at_ #[.ref q.kat, p.2.2]) L prs)
    (h : ∀ q ∈ L, H q.kat = some (.tup (q.key.map kV))) : KT H (L.map fun q => (q.key, q.val)) prs := by
  induction r with
  | nil => exact .nil
  | @cons q p L prs e _ ih =>
    refine .cons ⟨e.1.symm, ?_, e.2.2.1⟩ (ih fun q' hq => h q' (List.mem_cons_of_mem _ hq))
    rw [e.2.1]
    exact h q List.mem_cons_self
theorem call_dictPT (hc : X.calm = true) (hu : X.A.units + 64 < cLine) : CallR X (.type "dict") rDictPT := by
  intro pins s σ H xs us Q I r h
  obtain ⟨a, L, rfl, ha, hL, nd, q⟩ := h
  obtain ⟨u, rfl, rx⟩ := vals1 r
  cases rx
  obtain ⟨hz, its, n, rv, ea⟩ := I.hok a _ ha
  have eits : its = L.map fun q => Value.ref q.at_ := by
    have e : (L.map fun q => V.ref q.at_) = (L.map fun q => q.at_).map V.ref := by rw [List.map_map]; rfl
    rw [e] at rv
    have := L2.refs_at rv
    rw [this, List.map_map]; rfl
  obtain ⟨prs, pr⟩ := pairs_told I L hL
  have len := paired_len pr
  have keys := paired_keys pr
  have P := PairArg.list (prog := X.prog) (w := X.w) a its.toArray (fun j => (L[j]?.map fun q => q.at_).getD 0) (prs.map fun p => (Value.ref p.2.1, p.2.2))
  have Lsz : L.length ≤ sizeLine := by
    rw [List.length_map] at hz
    exact hz
  have key_in : ∀ p ∈ prs, ∃ q ∈ L, p.1 = q.key ∧ p.2.1 = q.kat := fun p hp => by
    obtain ⟨i, hi⟩ := List.getElem?_of_mem hp
    obtain ⟨q, hq, e⟩ := paired_at pr hi
    exact ⟨q, List.mem_of_getElem? hq, e.1, e.2.1⟩
  have newA : H s.heap.objs.size = none := I.hok.fresh (Nat.le_refl _)
  refine call_dict_pairsH (knd := tupleKind (mixKind X.prog X.w)) (ps := prs) P (I.ok.hd hc) (by show _ < cLine; simp; omega) ⟨⟨_, n, ea, rfl, rfl, rfl⟩, ?_, fun j k v e => ?_⟩ ⟨by rw [List.length_map], fun i key v e => ?_⟩ (fun h' keep p hp => ?_) (by rw [List.length_map]; omega) fun h' tk D keep => ?_
  · rw [List.size_toArray, eits, List.length_map, List.length_map, len]
  · rw [List.getElem?_map] at e
    obtain ⟨p, hp, e⟩ := Option.map_eq_some_iff.mp e
    cases e
    obtain ⟨q, hq, e1, e2, e3, e4⟩ := paired_at pr hp
    have eq1 : (L[j]?.map fun q => q.at_).getD 0 = q.at_ := by rw [hq]; rfl
    refine ⟨?_, .inl ?_⟩
    · show its.toArray[j]? = some (.ref ((L[j]?.map fun q => q.at_).getD 0))
      rw [eq1, eits]
      simp [hq]
    · show s.heap.IsTuple ((L[j]?.map fun q => q.at_).getD 0) _
      rw [eq1]
      show s.heap.IsTuple q.at_ #[.ref p.2.1, p.2.2]
      rw [e2]
      exact e4
  · have e : (prs.map fun p => (Value.ref p.2.1, p.2.2))[i]? = some (key, v) := e
    rw [List.getElem?_map] at e
    obtain ⟨p, hp, e⟩ := Option.map_eq_some_iff.mp e
    cases e
    exact ⟨p.1, p.2.1, hp, rfl⟩
  · obtain ⟨q, hq, e1, e2⟩ := key_in p hp
    have k0 := key_of I.hok (hL q hq).2
    rw [e1, e2]
    obtain ⟨o, items, m, ho, rest⟩ := k0
    exact ⟨o, items, m, keep _ _ (Nat.ne_of_lt (Heap.lt_size ho)) (by simp) ho, rest⟩
  · have e0 : storedAllH [] prs = prs := storedAllH_nil_of_nodup prs (by rw [keys]; exact nd)
    rw [e0] at D
    obtain ⟨o, es, ep, d1, d2, d3, d4, _, d6⟩ := D
    have hm : (s.heap.objs.size == sysModules) = false := beq_eq_false_iff_ne.mpr (Nat.ne_of_gt I.big)
    have kt : KT (upd H s.heap.objs.size (.dT (L.map fun q => (q.key, q.val)))) (L.map fun q => (q.key, q.val)) prs := paired_kt pr fun q hq => by
      rw [upd_ne (ne_of_none (hL q hq).2 newA)]
      exact (hL q hq).2
    exact ⟨.ref s.heap.objs.size, _, I.laid (o := .dT (L.map fun q => (q.key, q.val))) (t' := tk) (fun b o e => keep b o (by simp) e) (Nat.le_refl _) ⟨by rw [List.length_map]; exact Lsz, hm, prs, kt, o, es, ep, d1, d2, d3, d4, d6⟩, rfl, q.go newA⟩
end
end GA
/-! ## GK -/
namespace GA
open PySem PySem.Spec PyProof.Rows L2
section
variable {X : Cx}
/-- len(set(t)), t a tuple of unlike ints -/
def tLenSetTI (K : PySem.W.Frag) (ta : TE) : TE := fun σ H Q => ta σ H fun x H1 => ∃ (l : Addr) (ns : List Int), x = V.ref l ∧ SqT K H1 l (ns.map V.int) ∧ ns.length ≤ 1000 ∧ ns.Nodup ∧ Q (.int ns.length) H1
theorem pe_lenSetTI {a : Expr} {ta : TE} {p p2 q pos : Pos} (hc : X.calm = true) (hg : Gl X "len") (hm : X.mg "len" = none) (hg2 : Gl X "set") (hm2 : X.mg "set" = none) (ha : PE X a ta)
    (na : starEach [a] X.env = (false, eval a X.env) :: starEach [] X.env := by rfl) : PE X (.Call (.Name "len" p) [.Call (.Name "set" p2) [a] [] q] [] pos) (tLenSetTI X.K ta) := by
  refine ⟨fun pins s σ H Q I h => Call_ (ld_blt I hg hm PySem.boot_len (PyProof.Rows.callWith_builtin1 (PyProof.Rows.args_cons ?_ rfl) rfl rfl))⟩
  refine Call_ (ld_blt I hg2 hm2 PyProof.Rows.boot_set (PyProof.Rows.callWith_type1 (PyProof.Rows.args_cons (thn (ha.run pins s σ H _ I h) fun v s1 ⟨x, H1, I1, r1, l, ns, ex, hq, h1, hnd, q1⟩ => PyProof.Rows.args_nil ?_) na) na rfl))
  subst ex
  cases r1
  obtain ⟨its, r, pt, _⟩ := I1.tuple hq
  refine call_set_tupI ns (I1.ok.hd hc) pt (ints_of_vals r) (by unfold scanBound; omega) fun h' tk c R _ keep => PyProof.Rows.args_nil ?_
  obtain ⟨o, es, ep, t, ho, hex, hd, _, nd, mem, hsz, hf, _⟩ := R
  have e : es.size = ns.length := by
    have pm : (es.toList.map keyOf).Perm ns := (List.perm_ext_iff_of_nodup nd hnd).mpr fun k => by rw [← mem]; simp
    have := pm.length_eq
    simpa using this
  have I2 : Inv X pins σ H1 { s1 with heap := h', toks := tk } := I1.kept keep
  exact call_len_set ho hex hd hf (by rw [e]; omega) ⟨.int ns.length, H1, I2.tok _, ⟨_, by rw [e]⟩, q1⟩
end
end GA
/-! ## GL -/
namespace GA
open PySem L2
/-! ### methods of tuples; tuples whose object is known -/
section
variable {X : Cx} {T : String} {name : Str} {id : String} {r : V → List V → Hp → VK → Prop} {o e : Expr} {es : List Expr} {apos cpos : Pos} {to : TE} {t : TA}
theorem k_bm (K : PySem.W.Frag) (pa : PlainAttrs T) (slot : Slot T name id) (hty : typeOf (.builtin id) = pure (.type "method_descriptor")) (hm : MtR X id r) (ho : PE X o to) (ha : PA X (e :: es) t) (hK : X.K = K := by rfl)
    (h1 : attributeBase o name X.env (eval o X.env) = eval o X.env := by rfl)
    (h2 : ((backTo cpos (starEach (e :: es) X.env)).all (fun x => !x.1) && (backToKw cpos (keywordEach [] X.env)).all (fun x => x.1.isSome) && decide ((e :: es).length + ([] : List Keyword).length + (if ([] : List Keyword).isEmpty then 0 else 1) < 30)) = true := by rfl)
    (h3 : (apos.endLine == cpos.line) = true := by rfl) (h4 : starEach (e :: es) X.env = (false, eval e X.env) :: starEach es X.env := by rfl) (h5 : (backTo cpos (starEach es X.env)).any (·.1) = false := by rfl) :
    PE X (.Call (.Attribute o name apos) (e :: es) [] cpos) (tBM K T r to t) := by
  subst hK
  exact pe_bm pa slot hty hm ho ha h1 h2 h3 h4 h5
/-- a tuple whose object is known: it has no names of its own -/
def FrzT (H : Hp) (p : Addr) (xs : List V) : Prop := ∃ ob : Obj, H p = some (.frz ob (.tup xs)) ∧ ob.dict = none
theorem FrzT.sq {K : PySem.W.Frag} {H : Hp} {p : Addr} {xs : List V} (h : FrzT H p xs) : SqT K H p xs := by
  obtain ⟨ob, h, _⟩ := h
  exact .inl (.inr ⟨ob, h⟩)
theorem FrzT.n {H H' : Hp} {p : Addr} {xs : List V} (h : FrzT H p xs) (g : G none H H') : FrzT H' p xs := by
  obtain ⟨ob, h, d⟩ := h
  exact ⟨ob, g.all _ _ h, d⟩
def tBMT (r : V → List V → Hp → VK → Prop) (to : TE) (t : TA) : TE := fun σ H Q => to σ H fun x H1 => (∃ p xs, x = .ref p ∧ FrzT H1 p xs) ∧ t σ H1 fun vs H2 => r x vs H2 Q
theorem w_bmt {r : V → List V → Hp → VK → Prop} {σ : L2.St} {H : Hp} {Q : VK} (q : to σ H fun x H1 => (∃ p xs, x = .ref p ∧ FrzT H1 p xs) ∧ t σ H1 fun vs H2 => r x vs H2 Q) : tBMT r to t σ H Q := q
theorem pe_bmT (pa : PlainAttrs "tuple") (slot : Slot "tuple" name id) (hty : typeOf (.builtin id) = pure (.type "method_descriptor")) (hm : MtR X id r) (ho : PE X o to) (ha : PA X (e :: es) t)
    (h1 : attributeBase o name X.env (eval o X.env) = eval o X.env := by rfl)
    (h2 : ((backTo cpos (starEach (e :: es) X.env)).all (fun x => !x.1) && (backToKw cpos (keywordEach [] X.env)).all (fun x => x.1.isSome) && decide ((e :: es).length + ([] : List Keyword).length + (if ([] : List Keyword).isEmpty then 0 else 1) < 30)) = true := by rfl)
    (h3 : (apos.endLine == cpos.line) = true := by rfl) (h4 : starEach (e :: es) X.env = (false, eval e X.env) :: starEach es X.env := by rfl) (h5 : (backTo cpos (starEach es X.env)).any (·.1) = false := by rfl) :
    PE X (.Call (.Attribute o name apos) (e :: es) [] cpos) (tBMT r to t) := by
  refine ⟨fun pins s σ H Q I h => ?_⟩
  refine wpAny_Call_method_late h1 h2 h3 rfl (thn (ho.run pins s σ H _ I h) fun v s1 ⟨x, H1, I1, r1, ⟨p, xs, ex, ob, hp, dn⟩, q1⟩ => ?_)
  subst ex
  cases r1
  obtain ⟨a1, _, its, _, o', a2, a3, _⟩ := I1.hok p _ hp
  obtain rfl : o' = ob := by
    rw [a1] at a2
    exact (Option.some.inj a2).symm
  refine ⟨"tuple", id, pa, slot, hty, ⟨o', a1, a3⟩, fun a e => by cases e; exact ⟨o', a1, dn⟩, ?_⟩
  have hA := ha.run cpos pins s1 σ H1 _ I1 q1
  rw [h4] at hA ⊢
  refine Calls.callWith_builtin (by show (false || (backTo cpos (starEach es X.env)).any (·.1)) = false; rw [h5] <;> rfl) (Calls.evalArgs_plain ?_)
  exact thn hA fun us s2 ⟨vs, H2, I2, r2, q2⟩ => hm pins s2 σ H2 (.ref p) vs (.ref p) us Q I2 rfl r2 q2
/-- tuple(a list): the new tuple's object is told -/
def rTupleF (K : PySem.W.Frag) : List V → Hp → VK → Prop := fun xs H Q => ∃ p ys, xs = [.ref p] ∧ SqL K H p ys ∧ ∀ l H2, H l = none → (∀ o, G o H H2) → FrzT H2 l ys → Q (.ref l) H2
theorem call_tupleF : CallR X (.type "tuple") (rTupleF X.K) := by
  intro pins s σ H xs us Q I r h
  obtain ⟨p, ys, rfl, hq, q⟩ := h
  obtain ⟨u, rfl, rx⟩ := vals1 r
  cases rx
  obtain ⟨its, r', pl, hz⟩ := I.list hq
  have hlen := r'.length
  refine call_tuple_list pl.isList (fun h' kp => ?_) (by simp only [List.size_toArray] <;> omega)
  have I1 : Inv X pins σ H { s with heap := h' } := I.kept (t' := s.toks) kp
  have new : H h'.objs.size = none := I1.hok.fresh (Nat.le_refl _)
  refine ⟨.ref h'.objs.size, _, I1.laid (o := .frz { cls := .type "tuple", data := .seq its.toArray } (.tup ys)) (t' := s.toks) (fun b o e => Heap.get?_push_of_some _ e) (Nat.le_refl _) ⟨Heap.get?_push_size _ rfl, hz, its, r', PyProof.Rows.IsTup.new _ _⟩, rfl, q _ _ new (fun _ => G.alloc new) ⟨_, upd_same, rfl⟩⟩
end
end GA
/-! ## KH -/
namespace Mine
open PySem L2 GA
def top (i : Nat) : Stmt := PySem.Challenge.pw_growalong_k05_whole_what_was_ahead.main.body.getD i (.Pass ⟨0, 0, 0, 0⟩)
abbrev s_BadRecord_init : Stmt := inClass (top 2) 0
abbrev N_BadRecord_init : List Str := ["self", "part", "at"]
abbrev P_BadRecord_init : List Str := ["self", "part", "at"]
theorem sc_BadRecord_init : FnScope N_BadRecord_init P_BadRecord_init (defScope s_BadRecord_init) := ⟨rfl, rfl, rfl, by decide +kernel, rfl, by decide +kernel, by decide +kernel⟩
abbrev s_NoMachine_init : Stmt := inClass (top 3) 0
abbrev N_NoMachine_init : List Str := ["self"]
abbrev P_NoMachine_init : List Str := ["self"]
theorem sc_NoMachine_init : FnScope N_NoMachine_init P_NoMachine_init (defScope s_NoMachine_init) := ⟨rfl, rfl, rfl, by decide +kernel, rfl, by decide +kernel, by decide +kernel⟩
abbrev s_NoPut_init : Stmt := inClass (top 4) 0
abbrev N_NoPut_init : List Str := ["self"]
abbrev P_NoPut_init : List Str := ["self"]
theorem sc_NoPut_init : FnScope N_NoPut_init P_NoPut_init (defScope s_NoPut_init) := ⟨rfl, rfl, rfl, by decide +kernel, rfl, by decide +kernel, by decide +kernel⟩
abbrev s_is_integer : Stmt := top 6
abbrev N_is_integer : List Str := ["thing"]
abbrev P_is_integer : List Str := ["thing"]
theorem sc_is_integer : FnScope N_is_integer P_is_integer (defScope s_is_integer) := ⟨rfl, rfl, rfl, by decide +kernel, rfl, by decide +kernel, by decide +kernel⟩
abbrev s_is_between : Stmt := top 7
abbrev N_is_between : List Str := ["low", "high", "thing"]
abbrev P_is_between : List Str := ["low", "high", "thing"]
theorem sc_is_between : FnScope N_is_between P_is_between (defScope s_is_between) := ⟨rfl, rfl, rfl, by decide +kernel, rfl, by decide +kernel, by decide +kernel⟩
abbrev s_is_below : Stmt := top 8
abbrev N_is_below : List Str := ["bound", "thing"]
abbrev P_is_below : List Str := ["bound", "thing"]
theorem sc_is_below : FnScope N_is_below P_is_below (defScope s_is_below) := ⟨rfl, rfl, rfl, by decide +kernel, rfl, by decide +kernel, by decide +kernel⟩
abbrev s_is_tuple_of : Stmt := top 9
abbrev N_is_tuple_of : List Str := ["least", "most", "thing"]
abbrev P_is_tuple_of : List Str := ["least", "most", "thing"]
theorem sc_is_tuple_of : FnScope N_is_tuple_of P_is_tuple_of (defScope s_is_tuple_of) := ⟨rfl, rfl, rfl, by decide +kernel, rfl, by decide +kernel, by decide +kernel⟩
abbrev s_are_below : Stmt := top 10
abbrev N_are_below : List Str := ["bound", "things", "thing"]
abbrev P_are_below : List Str := ["bound", "things"]
theorem sc_are_below : FnScope N_are_below P_are_below (defScope s_are_below) := ⟨rfl, rfl, rfl, by decide +kernel, rfl, by decide +kernel, by decide +kernel⟩
abbrev s_Record_init : Stmt := inClass (top 14) 0
abbrev N_Record_init : List Str := ["self", "writers", "diaries"]
abbrev P_Record_init : List Str := ["self", "writers", "diaries"]
theorem sc_Record_init : FnScope N_Record_init P_Record_init (defScope s_Record_init) := ⟨rfl, rfl, rfl, by decide +kernel, rfl, by decide +kernel, by decide +kernel⟩
abbrev s_Record_eq : Stmt := inClass (top 14) 1
abbrev N_Record_eq : List Str := ["self", "other"]
abbrev P_Record_eq : List Str := ["self", "other"]
theorem sc_Record_eq : FnScope N_Record_eq P_Record_eq (defScope s_Record_eq) := ⟨rfl, rfl, rfl, by decide +kernel, rfl, by decide +kernel, by decide +kernel⟩
abbrev s_check_record : Stmt := top 15
abbrev N_check_record : List Str := ["writers", "diaries", "put", "writer", "machine", "diary"]
abbrev P_check_record : List Str := ["writers", "diaries"]
theorem sc_check_record : FnScope N_check_record P_check_record (defScope s_check_record) := ⟨rfl, rfl, rfl, by decide +kernel, rfl, by decide +kernel, by decide +kernel⟩
abbrev s_is_diary : Stmt := top 16
abbrev N_is_diary : List Str := ["puts", "thing"]
abbrev P_is_diary : List Str := ["puts", "thing"]
theorem sc_is_diary : FnScope N_is_diary P_is_diary (defScope s_is_diary) := ⟨rfl, rfl, rfl, by decide +kernel, rfl, by decide +kernel, by decide +kernel⟩
abbrev s_check_put : Stmt := top 17
abbrev N_check_put : List Str := ["record", "put"]
abbrev P_check_put : List Str := ["record", "put"]
theorem sc_check_put : FnScope N_check_put P_check_put (defScope s_check_put) := ⟨rfl, rfl, rfl, by decide +kernel, rfl, by decide +kernel, by decide +kernel⟩
abbrev s_ahead : Stmt := top 18
abbrev N_ahead : List Str := ["record", "machine", "put", "diary"]
abbrev P_ahead : List Str := ["record", "machine", "put"]
theorem sc_ahead : FnScope N_ahead P_ahead (defScope s_ahead) := ⟨rfl, rfl, rfl, by decide +kernel, rfl, by decide +kernel, by decide +kernel⟩
abbrev s_is_whole : Stmt := top 19
abbrev N_is_whole : List Str := ["record", "diary"]
abbrev P_is_whole : List Str := ["record"]
theorem sc_is_whole : FnScope N_is_whole P_is_whole (defScope s_is_whole) := ⟨rfl, rfl, rfl, by decide +kernel, rfl, by decide +kernel, by decide +kernel⟩
abbrev s__law_hand : Stmt := top 21
abbrev N__law_hand : List Str := ["_law_script", "_law_cells", "_law_cell"]
abbrev P__law_hand : List Str := ["_law_script"]
theorem sc__law_hand : FnScope N__law_hand P__law_hand (defScope s__law_hand) := ⟨rfl, rfl, rfl, by decide +kernel, rfl, by decide +kernel, by decide +kernel⟩
abbrev s__law_draw : Stmt := top 22
abbrev N__law_draw : List Str := ["_law_hand_here", "_law_many", "_law_cell", "_law_digit", "_law_number"]
abbrev P__law_draw : List Str := ["_law_hand_here", "_law_many"]
theorem sc__law_draw : FnScope N__law_draw P__law_draw (defScope s__law_draw) := ⟨rfl, rfl, rfl, by decide +kernel, rfl, by decide +kernel, by decide +kernel⟩
abbrev s__law_is : Stmt := top 23
abbrev N__law_is : List Str := ["_law_told", "_law_due", "_law_one", "_law_two"]
abbrev P__law_is : List Str := ["_law_told", "_law_due"]
theorem sc__law_is : FnScope N__law_is P__law_is (defScope s__law_is) := ⟨rfl, rfl, rfl, by decide +kernel, rfl, by decide +kernel, by decide +kernel⟩
abbrev s__law_flag : Stmt := top 24
abbrev N__law_flag : List Str := ["_law_told", "_law_due"]
abbrev P__law_flag : List Str := ["_law_told", "_law_due"]
theorem sc__law_flag : FnScope N__law_flag P__law_flag (defScope s__law_flag) := ⟨rfl, rfl, rfl, by decide +kernel, rfl, by decide +kernel, by decide +kernel⟩
abbrev s__law_web : Stmt := top 25
abbrev N__law_web : List Str := ["_law_hand_here", "_law_machines", "_law_kind", "_law_found", "_law_y", "_law_x", "_law_near"]
abbrev P__law_web : List Str := ["_law_hand_here", "_law_machines"]
theorem sc__law_web : FnScope N__law_web P__law_web (defScope s__law_web) := ⟨rfl, rfl, rfl, by decide +kernel, rfl, by decide +kernel, by decide +kernel⟩
abbrev s__law_ran : Stmt := top 26
abbrev N__law_ran : List Str := ["_law_hand_here", "_law_machines", "_law_wires", "_law_writers", "_law_most", "_law_diaries", "_law_wire", "_law_letters", "_law_left", "_law_steps", "_law_more", "_law_turn", "_law_ready", "_law_put", "_law_x", "_law_y", "_law_machine", "_law_diary"]
abbrev P__law_ran : List Str := ["_law_hand_here", "_law_machines", "_law_wires", "_law_writers", "_law_most"]
theorem sc__law_ran : FnScope N__law_ran P__law_ran (defScope s__law_ran) := ⟨rfl, rfl, rfl, by decide +kernel, rfl, by decide +kernel, by decide +kernel⟩
abbrev s__law_bent : Stmt := top 27
abbrev N__law_bent : List Str := ["_law_hand_here", "_law_writers", "_law_diaries", "_law_x", "_law_own", "_law_kind", "_law_at", "_law_others", "_law_lacking", "_law_put"]
abbrev P__law_bent : List Str := ["_law_hand_here", "_law_writers", "_law_diaries"]
theorem sc__law_bent : FnScope N__law_bent P__law_bent (defScope s__law_bent) := ⟨rfl, rfl, rfl, by decide +kernel, rfl, by decide +kernel, by decide +kernel⟩
abbrev s__law_parts : Stmt := top 28
abbrev N__law_parts : List Str := ["_law_hand_here", "_law_most_machines", "_law_most_puts", "_law_machines", "_law_wires", "_law_writers", "_law_diaries", "_law_turn", "_law_put"]
abbrev P__law_parts : List Str := ["_law_hand_here", "_law_most_machines", "_law_most_puts"]
theorem sc__law_parts : FnScope N__law_parts P__law_parts (defScope s__law_parts) := ⟨rfl, rfl, rfl, by decide +kernel, rfl, by decide +kernel, by decide +kernel⟩
abbrev s__law_all_told : Stmt := top 29
abbrev N__law_all_told : List Str := ["_law_hand_here", "_law_machines", "_law_writers", "_law_found", "_law_x", "_law_left", "_law_turn"]
abbrev P__law_all_told : List Str := ["_law_hand_here", "_law_machines", "_law_writers"]
theorem sc__law_all_told : FnScope N__law_all_told P__law_all_told (defScope s__law_all_told) := ⟨rfl, rfl, rfl, by decide +kernel, rfl, by decide +kernel, by decide +kernel⟩
abbrev s_law : Stmt := top 30
abbrev N_law : List Str := ["_law_script", "_law_hand_here", "_law_turn", "_law_machines", "_law_wires", "_law_writers", "_law_diaries", "_law_record", "_law_x", "_law_sizes", "_law_put", "_law_due", "_law_whole", "_law_diary"]
abbrev P_law : List Str := ["_law_script"]
theorem sc_law : FnScope N_law P_law (defScope s_law) := ⟨rfl, rfl, rfl, by decide +kernel, rfl, by decide +kernel, by decide +kernel⟩
structure Ads where
  f_is_integer : Addr
  d_is_integer : FuncData
  f_is_between : Addr
  d_is_between : FuncData
  f_is_below : Addr
  d_is_below : FuncData
  f_is_tuple_of : Addr
  d_is_tuple_of : FuncData
  f_are_below : Addr
  d_are_below : FuncData
  f_Record_init : Addr
  d_Record_init : FuncData
  f_Record_eq : Addr
  d_Record_eq : FuncData
  f_check_record : Addr
  d_check_record : FuncData
  f_is_diary : Addr
  d_is_diary : FuncData
  f_check_put : Addr
  d_check_put : FuncData
  f_ahead : Addr
  d_ahead : FuncData
  f_is_whole : Addr
  d_is_whole : FuncData
  f__law_hand : Addr
  d__law_hand : FuncData
  f__law_draw : Addr
  d__law_draw : FuncData
  f__law_is : Addr
  d__law_is : FuncData
  f__law_flag : Addr
  d__law_flag : FuncData
  f__law_web : Addr
  d__law_web : FuncData
  f__law_ran : Addr
  d__law_ran : FuncData
  f__law_bent : Addr
  d__law_bent : FuncData
  f__law_parts : Addr
  d__law_parts : FuncData
  f__law_all_told : Addr
  d__law_all_told : FuncData
  f_law : Addr
  d_law : FuncData
  c_Record : Addr
  t_MOST_MACHINES : Tok
  t_MOST_PUTS : Tok
structure Txt (K : PySem.W.Frag) (mg : Str → Option Value) (a : Ads) : Prop where
  F_is_integer : Fun K "is_integer" "is_integer" s_is_integer a.f_is_integer a.d_is_integer
  b_is_integer : Binds K a.d_is_integer P_is_integer []
  m_is_integer : mg "is_integer" = some (.ref a.f_is_integer)
  F_is_between : Fun K "is_between" "is_between" s_is_between a.f_is_between a.d_is_between
  b_is_between : Binds K a.d_is_between P_is_between []
  m_is_between : mg "is_between" = some (.ref a.f_is_between)
  F_is_below : Fun K "is_below" "is_below" s_is_below a.f_is_below a.d_is_below
  b_is_below : Binds K a.d_is_below P_is_below []
  m_is_below : mg "is_below" = some (.ref a.f_is_below)
  F_is_tuple_of : Fun K "is_tuple_of" "is_tuple_of" s_is_tuple_of a.f_is_tuple_of a.d_is_tuple_of
  b_is_tuple_of : Binds K a.d_is_tuple_of P_is_tuple_of []
  m_is_tuple_of : mg "is_tuple_of" = some (.ref a.f_is_tuple_of)
  F_are_below : Fun K "are_below" "are_below" s_are_below a.f_are_below a.d_are_below
  b_are_below : Binds K a.d_are_below P_are_below []
  m_are_below : mg "are_below" = some (.ref a.f_are_below)
  F_Record_init : Fun K "__init__" "Record.__init__" s_Record_init a.f_Record_init a.d_Record_init
  b_Record_init : Binds K a.d_Record_init P_Record_init []
  F_Record_eq : Fun K "__eq__" "Record.__eq__" s_Record_eq a.f_Record_eq a.d_Record_eq
  b_Record_eq : Binds K a.d_Record_eq P_Record_eq []
  F_check_record : Fun K "check_record" "check_record" s_check_record a.f_check_record a.d_check_record
  b_check_record : Binds K a.d_check_record P_check_record []
  m_check_record : mg "check_record" = some (.ref a.f_check_record)
  F_is_diary : Fun K "is_diary" "is_diary" s_is_diary a.f_is_diary a.d_is_diary
  b_is_diary : Binds K a.d_is_diary P_is_diary []
  m_is_diary : mg "is_diary" = some (.ref a.f_is_diary)
  F_check_put : Fun K "check_put" "check_put" s_check_put a.f_check_put a.d_check_put
  b_check_put : Binds K a.d_check_put P_check_put []
  m_check_put : mg "check_put" = some (.ref a.f_check_put)
  F_ahead : Fun K "ahead" "ahead" s_ahead a.f_ahead a.d_ahead
  b_ahead : Binds K a.d_ahead P_ahead []
  m_ahead : mg "ahead" = some (.ref a.f_ahead)
  F_is_whole : Fun K "is_whole" "is_whole" s_is_whole a.f_is_whole a.d_is_whole
  b_is_whole : Binds K a.d_is_whole P_is_whole []
  m_is_whole : mg "is_whole" = some (.ref a.f_is_whole)
  F__law_hand : Fun K "_law_hand" "_law_hand" s__law_hand a.f__law_hand a.d__law_hand
  b__law_hand : Binds K a.d__law_hand P__law_hand []
  m__law_hand : mg "_law_hand" = some (.ref a.f__law_hand)
  F__law_draw : Fun K "_law_draw" "_law_draw" s__law_draw a.f__law_draw a.d__law_draw
  b__law_draw : Binds K a.d__law_draw P__law_draw []
  m__law_draw : mg "_law_draw" = some (.ref a.f__law_draw)
  F__law_is : Fun K "_law_is" "_law_is" s__law_is a.f__law_is a.d__law_is
  b__law_is : Binds K a.d__law_is P__law_is []
  m__law_is : mg "_law_is" = some (.ref a.f__law_is)
  F__law_flag : Fun K "_law_flag" "_law_flag" s__law_flag a.f__law_flag a.d__law_flag
  b__law_flag : Binds K a.d__law_flag P__law_flag []
  m__law_flag : mg "_law_flag" = some (.ref a.f__law_flag)
  F__law_web : Fun K "_law_web" "_law_web" s__law_web a.f__law_web a.d__law_web
  b__law_web : Binds K a.d__law_web P__law_web []
  m__law_web : mg "_law_web" = some (.ref a.f__law_web)
  F__law_ran : Fun K "_law_ran" "_law_ran" s__law_ran a.f__law_ran a.d__law_ran
  b__law_ran : Binds K a.d__law_ran P__law_ran []
  m__law_ran : mg "_law_ran" = some (.ref a.f__law_ran)
  F__law_bent : Fun K "_law_bent" "_law_bent" s__law_bent a.f__law_bent a.d__law_bent
  b__law_bent : Binds K a.d__law_bent P__law_bent []
  m__law_bent : mg "_law_bent" = some (.ref a.f__law_bent)
  F__law_parts : Fun K "_law_parts" "_law_parts" s__law_parts a.f__law_parts a.d__law_parts
  b__law_parts : Binds K a.d__law_parts P__law_parts []
  m__law_parts : mg "_law_parts" = some (.ref a.f__law_parts)
  F__law_all_told : Fun K "_law_all_told" "_law_all_told" s__law_all_told a.f__law_all_told a.d__law_all_told
  b__law_all_told : Binds K a.d__law_all_told P__law_all_told []
  m__law_all_told : mg "_law_all_told" = some (.ref a.f__law_all_told)
  F_law : Fun K "law" "law" s_law a.f_law a.d_law
  b_law : Binds K a.d_law P_law []
  m_law : mg "law" = some (.ref a.f_law)
  m_Record : mg "Record" = some (.ref a.c_Record)
  cl_Record : Cls K a.c_Record
  K_Record : Mk K a.c_Record a.f_Record_init
  ic_Record : C8.InsC K a.c_Record
  eqf_Record : PySem.W.findIn K (.ref a.c_Record) "__eq__" = some (some (.ref a.f_Record_eq))
  eqi_Record : PySem.W.isFn K (.ref a.f_Record_eq) = true
  ne_Record : PySem.W.findIn K (.ref a.c_Record) "__ne__" = some (some (.builtin "object.__ne__"))
  na_Record_writers : NoAttr K a.c_Record "writers"
  na_Record_diaries : NoAttr K a.c_Record "diaries"
  m_MOST_MACHINES : mg "MOST_MACHINES" = some (.int 7 a.t_MOST_MACHINES)
  m_MOST_PUTS : mg "MOST_PUTS" = some (.int 30 a.t_MOST_PUTS)
  n_isinstance : mg "isinstance" = none
  n_int : mg "int" = none
  n_bool : mg "bool" = none
  n_tuple : mg "tuple" = none
  n_len : mg "len" = none
  n_all : mg "all" = none
  n_enumerate : mg "enumerate" = none
  n_set : mg "set" = none
  n_sorted : mg "sorted" = none
  n_list : mg "list" = none
  n_zip : mg "zip" = none
  n_range : mg "range" = none
  n_abs : mg "abs" = none
  n_min : mg "min" = none
  n_dict : mg "dict" = none
  n_max : mg "max" = none
end Mine
/-! ## K1 -/
section
open PySem L2 GA
local macro_rules
  | `(tactic| walk_at "w") => `(tactic| first
    | ((with_reducible refine' GA.w_var ?e ?_); (case e => exact rfl))
    | (with_reducible refine' GA.w_c ?_)
    | (with_reducible refine' GA.w_cons ?_)
    | (with_reducible refine' GA.w_nil ?_)
    | (with_reducible refine' GA.w_op ?_)
    | (with_reducible refine' GA.r_I0 ?_)
    | (with_reducible refine' GA.w_bl ?_)
    | (with_reducible refine' GA.w_seq ?_)
    | (with_reducible refine' GA.w_set ?_)
    | (with_reducible refine' GA.w_ret ?_)
    | (with_reducible refine' GA.w_ifS ?_)
    | (with_reducible refine' GA.w_test ?_)
    | (with_reducible refine' GA.w_tB ?_)
    | (with_reducible refine' GA.w_not ?_)
    | (with_reducible refine' GA.w_and ?_)
    | (with_reducible refine' GA.w_or ?_)
    | (with_reducible refine' GA.w_andV ?_)
    | (with_reducible refine' GA.w_orV ?_)
    | (with_reducible refine' GA.w_notV ?_)
    | (with_reducible refine' GA.w_blc ?_)
    | (with_reducible refine' GA.w_if ?_)
    | (with_reducible refine' GA.w_CB ?_)
    | (with_reducible refine' GA.w_call ?_)
    | (with_reducible refine' GA.w_tupN ?_)
    | (with_reducible refine' GA.w_lstN ?_)
    | (with_reducible refine' GA.w_chain ?_)
    | (with_reducible refine' GA.w_drop ?_)
    | (with_reducible refine' GA.w_next ?_)
    | (with_reducible refine' GA.w_break ?_)
    | (with_reducible refine' GA.w_un ?_)
    | (with_reducible refine' GA.r_U ?_)
    | (with_reducible refine' GA.r_eqI ?_)
    | (with_reducible refine' GA.r_neI ?_)
    | (with_reducible refine' GA.r_eqB ?_)
    | (with_reducible refine' GA.r_neB ?_)
    | (with_reducible refine' GA.w_fld ?_)
    | (with_reducible refine' GA.w_sfld ?_)
    | (with_reducible refine' GA.w_sl ?_)
    | (with_reducible refine' GA.w_part ?_)
    | (with_reducible refine' GA.w_noPart ?_)
    | (with_reducible refine' GA.w_inti ?_)
    | (with_reducible refine' GA.w_retN ?_)
    | (with_reducible refine' GA.w_gsub ?_)
    | (with_reducible refine' GA.w_gname ?_)
    | (with_reducible refine' L2.iteT ?_)
    | (with_reducible refine' L2.iteF ?_)
    | (with_reducible refine' GA.w_nt ?_)
    | (with_reducible refine' GA.w_nf ?_)
    | (with_reducible refine' GA.w_isN ?_)
    | (with_reducible refine' GA.w_notN ?_)
    | (with_reducible refine' GA.w_yes ?_)
    | (with_reducible refine' GA.w_lc ?_)
    | (with_reducible refine' GA.w_lc2 ?_)
    | (with_reducible refine' GA.w_iseq ?_)
    | (with_reducible refine' GA.w_make ?_)
    | (with_reducible refine' GA.w_for ?_)
    | (with_reducible refine' GA.w_rng1 ?_)
    | (with_reducible refine' GA.w_rng2 ?_)
    | (with_reducible refine' GA.w_itup ?_)
    | (with_reducible refine' GA.w_ilist ?_)
    | (with_reducible refine' GA.w_ienum ?_)
    | (with_reducible refine' GA.w_BM ?_)
    | (with_reducible refine' GA.w_BM0 ?_)
    | (with_reducible refine' GA.w_izip ?_)
    | (with_reducible refine' GA.w_asg ?_))
  | `(tactic| walk_at "wm") => `(tactic| first
    | ((with_reducible refine' GA.w_var ?e ?_); (case e => exact rfl))
    | (with_reducible refine' GA.w_c ?_)
    | (with_reducible refine' GA.w_cons ?_)
    | (with_reducible refine' GA.w_nil ?_)
    | (with_reducible refine' GA.w_op ?_)
    | (with_reducible refine' GA.r_I0 ?_)
    | (with_reducible refine' GA.w_bl ?_)
    | (with_reducible refine' GA.w_set ?_)
    | (with_reducible refine' GA.w_ret ?_)
    | (with_reducible refine' GA.w_ifS ?_)
    | (with_reducible refine' GA.w_test ?_)
    | (with_reducible refine' GA.w_tB ?_)
    | (with_reducible refine' GA.w_not ?_)
    | (with_reducible refine' GA.w_and ?_)
    | (with_reducible refine' GA.w_or ?_)
    | (with_reducible refine' GA.w_andV ?_)
    | (with_reducible refine' GA.w_orV ?_)
    | (with_reducible refine' GA.w_notV ?_)
    | (with_reducible refine' GA.w_blc ?_)
    | (with_reducible refine' GA.w_if ?_)
    | (with_reducible refine' GA.w_CB ?_)
    | (with_reducible refine' GA.w_call ?_)
    | (with_reducible refine' GA.w_tupN ?_)
    | (with_reducible refine' GA.w_lstN ?_)
    | (with_reducible refine' GA.w_chain ?_)
    | (with_reducible refine' GA.w_drop ?_)
    | (with_reducible refine' GA.w_next ?_)
    | (with_reducible refine' GA.w_break ?_)
    | (with_reducible refine' GA.w_un ?_)
    | (with_reducible refine' GA.r_U ?_)
    | (with_reducible refine' GA.r_eqI ?_)
    | (with_reducible refine' GA.r_neI ?_)
    | (with_reducible refine' GA.r_eqB ?_)
    | (with_reducible refine' GA.r_neB ?_)
    | (with_reducible refine' GA.w_fld ?_)
    | (with_reducible refine' GA.w_sfld ?_)
    | (with_reducible refine' GA.w_sl ?_)
    | (with_reducible refine' GA.w_part ?_)
    | (with_reducible refine' GA.w_noPart ?_)
    | (with_reducible refine' GA.w_inti ?_)
    | (with_reducible refine' GA.w_retN ?_)
    | (with_reducible refine' GA.w_gsub ?_)
    | (with_reducible refine' GA.w_gname ?_)
    | (with_reducible refine' L2.iteT ?_)
    | (with_reducible refine' L2.iteF ?_)
    | (with_reducible refine' GA.w_nt ?_)
    | (with_reducible refine' GA.w_nf ?_)
    | (with_reducible refine' GA.w_isN ?_)
    | (with_reducible refine' GA.w_notN ?_)
    | (with_reducible refine' GA.w_yes ?_)
    | (with_reducible refine' GA.w_lc ?_)
    | (with_reducible refine' GA.w_lc2 ?_)
    | (with_reducible refine' GA.w_iseq ?_)
    | (with_reducible refine' GA.w_make ?_)
    | (with_reducible refine' GA.w_for ?_)
    | (with_reducible refine' GA.w_rng1 ?_)
    | (with_reducible refine' GA.w_rng2 ?_)
    | (with_reducible refine' GA.w_itup ?_)
    | (with_reducible refine' GA.w_ilist ?_)
    | (with_reducible refine' GA.w_ienum ?_)
    | (with_reducible refine' GA.w_BM ?_)
    | (with_reducible refine' GA.w_BM0 ?_)
    | (with_reducible refine' GA.w_izip ?_)
    | (with_reducible refine' GA.w_asg ?_))
  | `(tactic| walk_at "ws") => `(tactic| repeat (walk_at "w"))
  | `(tactic| walk_at "wn") => `(tactic| repeat (walk_at "wm"))


namespace Mine
section
variable {P : Program} {w : World} {K : PySem.W.Frag} {mg : Str → Option Value} {base : Heap} {a : Ads}

theorem tyx_tup {H : Hp} {p : Addr} {xs : List V} (h : SqT K H p xs) : TyX K H (.ref p) (.type "tuple") := by
  rcases h with (h | ⟨o, h⟩) | ⟨o, its, n, h1, h2, _⟩
  · exact .base (.tup h)
  · exact .fTuple h
  · exact .kTuple h1 h2
theorem r_isi {x : V} {t : Value} {n : String} {b : Bool} {H : Hp} {Q : VK} (ty : TyX K H x t) (e : PySem.W.kitOne K t (.type n) = some b) (q : Q (.bl b) H) : rIsi K [x, .ty n] H Q := ⟨x, .ty n, t, .type n, b, rfl, .ty n, ty, e, q⟩
theorem ki_ii : PySem.W.kitOne K (.type "int") (.type "int") = some true := kit_ty (by decide +kernel)
theorem ki_ib : PySem.W.kitOne K (.type "int") (.type "bool") = some false := kit_ty (by decide +kernel)
theorem ki_bb : PySem.W.kitOne K (.type "bool") (.type "bool") = some true := kit_ty (by decide +kernel)
theorem ki_tt : PySem.W.kitOne K (.type "tuple") (.type "tuple") = some true := kit_ty (by decide +kernel)
theorem ki_tb : PySem.W.kitOne K (.type "tuple") (.type "bool") = some false := kit_ty (by decide +kernel)
theorem ki_it : PySem.W.kitOne K (.type "int") (.type "tuple") = some false := kit_ty (by decide +kernel)
theorem ty_int {H : Hp} {i : Int} : TyX K H (.int i) (.type "int") := .base (.int i)
theorem ty_bl {H : Hp} {i : Bool} : TyX K H (.bl i) (.type "bool") := .base (.bl i)
def sp_is_integer : Sp := fun vs H Q _ => ∃ i : Int, vs = [.int i] ∧ Q (.bl true) H
theorem ok_is_integer (T : Txt K mg a) : FnOk P w K mg base CX0 1 a.f_is_integer a.d_is_integer P_is_integer sp_is_integer := by
  refine T.F_is_integer.ok sc_is_integer (fun vs H Q E h => by obtain ⟨i, rfl, _⟩ := h; rfl) (fun cdv A outer s H vs Q E hr h => ?_)
  obtain ⟨i, rfl, k⟩ := h
  refine ⟨_, (pss_one (ps_ret (pe_and (pe_callB call_isi (by rfl) T.n_isinstance (by decide +kernel) (pa_cons (pv 0) (pa_cons (pe_bltn (v := .ty "int") (u := .type "int") rfl T.n_int (by decide +kernel) rfl) pa_nil))) (pe_one (pe_not (pe_callB call_isi (by rfl) T.n_isinstance (by decide +kernel) (pa_cons (pv 0) (pa_cons (pe_bltn (v := .ty "bool") (u := .type "bool") rfl T.n_bool (by decide +kernel) rfl) pa_nil)))))))), ?_⟩
  walk_at "ws"
  refine r_isi ty_int ki_ii ?_
  walk_at "ws"
  refine r_isi ty_int ki_ib ?_
  walk_at "ws"
  exact k

def sp_is_between : Sp := fun vs H Q _ => ∃ lo hi i : Int, vs = [.int lo, .int hi, .int i] ∧ Q (.bl (decide (lo ≤ i) && decide (i ≤ hi))) H
theorem ok_is_between (T : Txt K mg a) : FnOk P w K mg base CX0 2 a.f_is_between a.d_is_between P_is_between sp_is_between := by
  refine T.F_is_between.ok sc_is_between (fun vs H Q E h => by obtain ⟨lo, hi, i, rfl, _⟩ := h; rfl) (fun cdv A outer s H vs Q E hr h => ?_)
  obtain ⟨lo, hi, i, rfl, k⟩ := h
  have G_is_integer : FnOk P w K mg base CX0 1 a.f_is_integer a.d_is_integer P_is_integer sp_is_integer := ok_is_integer T
  refine ⟨_, (pss_one (ps_ret (pe_and (pe_call (G_is_integer) (hr.mono (by omega)) rfl T.m_is_integer T.F_is_integer.kp T.b_is_integer .nil pass0 (pa_cons (pv 2) pa_nil)) (pe_one (pe_chain op_le op_le (pv 0) (pv 2) (pv 1)))))), ?_⟩
  walk_at "ws"
  refine ⟨_, rfl, ?_⟩
  walk_at "ws"
  refine w_ite (fun e => ?_) (fun e => ?_)
  · walk_at "ws"
    rw [e] at k
    exact k
  · rw [e] at k
    exact k

def sp_is_below : Sp := fun vs H Q _ => ∃ b i : Int, vs = [.int b, .int i] ∧ Q (.bl (decide (0 ≤ i) && decide (i < b))) H
theorem ok_is_below (T : Txt K mg a) : FnOk P w K mg base CX0 3 a.f_is_below a.d_is_below P_is_below sp_is_below := by
  refine T.F_is_below.ok sc_is_below (fun vs H Q E h => by obtain ⟨b, i, rfl, _⟩ := h; rfl) (fun cdv A outer s H vs Q E hr h => ?_)
  obtain ⟨b, i, rfl, k⟩ := h
  have G_is_between : FnOk P w K mg base CX0 2 a.f_is_between a.d_is_between P_is_between sp_is_between := ok_is_between T
  refine ⟨_, (pss_one (ps_ret (pe_call (G_is_between) (hr.mono (by omega)) rfl T.m_is_between T.F_is_between.kp T.b_is_between .nil pass0 (pa_cons pe_int (pa_cons (pe_op op_sub (pv 0) pe_int) (pa_cons (pv 1) pa_nil)))))), ?_⟩
  walk_at "ws"
  refine ⟨_, _, _, rfl, ?_⟩
  have e : decide (i ≤ b - 1) = decide (i < b) := by simp only [decide_eq_decide]; omega
  rw [e]
  exact k

def sp_is_tuple_of (K : PySem.W.Frag) : Sp := fun vs H Q _ => ∃ (lo hi : Int) (p : Addr) (xs : List V), vs = [.int lo, .int hi, .ref p] ∧ SqT K H p xs ∧ Q (.bl (decide (lo ≤ xs.length) && decide ((xs.length : Int) ≤ hi))) H
theorem ok_is_tuple_of (T : Txt K mg a) : FnOk P w K mg base CX0 1 a.f_is_tuple_of a.d_is_tuple_of P_is_tuple_of (sp_is_tuple_of K) := by
  refine T.F_is_tuple_of.ok sc_is_tuple_of (fun vs H Q E h => by obtain ⟨lo, hi, p, xs, rfl, _⟩ := h; rfl) (fun cdv A outer s H vs Q E hr h => ?_)
  obtain ⟨lo, hi, p, xs, rfl, hx, k⟩ := h
  refine ⟨_, (pss_one (ps_ret (pe_and (pe_callB call_isi (by rfl) T.n_isinstance (by decide +kernel) (pa_cons (pv 2) (pa_cons (pe_bltn (v := .ty "tuple") (u := .type "tuple") rfl T.n_tuple (by decide +kernel) rfl) pa_nil))) (pe_one (pe_chain op_le op_le (pv 0) (pe_callB call_len_seq (by rfl) T.n_len (by decide +kernel) (pa_cons (pv 2) pa_nil)) (pv 1)))))), ?_⟩
  walk_at "ws"
  refine r_isi (tyx_tup hx) ki_tt ?_
  walk_at "ws"
  refine ⟨_, _, rfl, .inr hx, ?_⟩
  walk_at "ws"
  refine w_ite (fun e => ?_) (fun e => ?_)
  · walk_at "ws"
    rw [e] at k
    exact k
  · rw [e] at k
    exact k

end
end Mine
/-! ## K2 -/


namespace Mine
section
variable {P : Program} {w : World} {K : PySem.W.Frag} {mg : Str → Option Value} {base : Heap} {a : Ads}

/-! ### are_below, is_unlike_pair -/
def inB (b : Int) (n : Int) : Bool := decide (0 ≤ n) && decide (n < b)
def sp_are_below (K : PySem.W.Frag) : Sp := fun vs H Q _ => ∃ (b : Int) (p : Addr) (ns : List Int), vs = [.int b, .ref p] ∧ SqT K H p (ns.map V.int) ∧ ns.length ≤ 100000 ∧ ∀ H', G none H H' → Q (.bl (ns.all (inB b))) H'
theorem ok_are_below (T : Txt K mg a) : FnOk P w K mg base CX0 4 a.f_are_below a.d_are_below P_are_below (sp_are_below K) := by
  refine T.F_are_below.ok sc_are_below (fun vs H Q E h => by obtain ⟨b, p, ns, rfl, _⟩ := h; rfl) (fun cdv A outer s H vs Q E hr h => ?_)
  obtain ⟨b, p, ns, rfl, hx, hz, k⟩ := h
  have G_is_below : FnOk P w K mg base CX0 3 a.f_is_below a.d_is_below P_is_below sp_is_below := ok_is_below T
  refine ⟨_, (pss_one (ps_ret (pe_callB (cr_all rfl) (by rfl) T.n_all (by decide +kernel) (pa_cons (pe_lc (own := [("thing", 2)]) (g := (gName 2)) (tt := tYes) rfl sc_are_below.nd (pi_tup (pv 1)) (blkOk_by (N := N_are_below) (sc := defScope s_are_below) (by decide +kernel)) (fun _ _ _ _ _ => (pg_name (i := 2) sc_are_below.nd rfl (by first | exact Or.inl rfl | exact Or.inr rfl))) (fun _ _ _ _ _ => pts_nil) (fun _ _ _ _ _ => (pe_call (G_is_below) (hr.mono (by omega)) rfl T.m_is_below T.F_is_below.kp T.b_is_below .nil pass0 (pa_cons (pv 0) (pa_cons (pv 2) pa_nil))))) pa_nil)))), ?_⟩
  walk_at "ws"
  refine i_tup hx ?_
  intro D hD
  refine lc_pure (K := K) (o := none) walk_tup (by rw [List.length_map]; exact hz) hD (fun _ e => nomatch e) (fun i => ns[i]?.map fun n => .bool (inB b n)) (fun H' g => sqT_t g.tups hx) ?_ ?_
  · rintro i x H1 H2 hi g ⟨rfl, hx1⟩ Qy Qn ky kn
    obtain ⟨n, hn, rfl⟩ : ∃ n, ns[i]? = some n ∧ V.int n = x := by
      rw [List.getElem?_map] at hx1; exact Option.map_eq_some_iff.mp hx1
    walk_at "ws"
    refine ⟨rfl, ?_⟩
    walk_at "ws"
    refine ⟨_, _, rfl, ky _ _ _ G.refl (.bl _) rfl (by rw [hn]; rfl)⟩
  · intro xs H' g hD' hds _
    rw [List.length_map, filterMap_range_map] at hds
    have e : xs = (ns.map (inB b)).map V.bl := by
      clear hD' g
      generalize ns = l at hds
      induction l generalizing xs with
      | nil => cases hds; rfl
      | cons n l ih =>
        cases hds with
        | cons h t => cases h; rw [ih _ t]; rfl
    subst e
    walk_at "ws"
    refine ⟨D, ns.map (inB b), rfl, SqL.of hD', ?_⟩
    have e : (ns.map (inB b)).all id = ns.all (inB b) := by rw [List.all_map]; rfl
    rw [e]
    exact k _ g

end
end Mine
/-! ## K3 -/


namespace Mine
section
variable {P : Program} {w : World} {K : PySem.W.Frag} {mg : Str → Option Value} {base : Heap} {a : Ads}

/-! ### records -/
/-- a tuple of tuples of ints, each with its object known -/
def Dia (K : PySem.W.Frag) (H : Hp) (p : Addr) (ds : List (List Int)) : Prop := ∃ bs : List Addr, SqT K H p (bs.map V.ref) ∧ bs.length = ds.length ∧ ∀ (i : Nat) (b : Addr) (d : List Int), bs[i]? = some b → ds[i]? = some d → FrzT H b (d.map V.int)
theorem Dia.g {H H' : Hp} {p : Addr} {ds : List (List Int)} {o : Option (Addr × Addr)} (h : Dia K H p ds) (g : G o H H') (hh : ∀ q, o = some q → Hand H q.1 q.2) : Dia K H' p ds := by
  obtain ⟨bs, h1, h2, h3⟩ := h
  refine ⟨bs, sqT_t g.tups h1, h2, fun i b d e1 e2 => ?_⟩
  obtain ⟨ob, q1, q2⟩ := h3 i b d e1 e2
  refine ⟨ob, g.keep b _ (fun q e => ?_) q1, q2⟩
  obtain ⟨_, _, _, _, _, _, z, _⟩ := hh q e
  exact ne_of q1 z (by intro z; cases z)
theorem Dia.n {H H' : Hp} {p : Addr} {ds : List (List Int)} (h : Dia K H p ds) (g : G none H H') : Dia K H' p ds := h.g g fun _ e => nomatch e
theorem Dia.at_ {H : Hp} {p : Addr} {bs : List Addr} {ds : List (List Int)} (h2 : bs.length = ds.length) (h3 : ∀ (i : Nat) (b : Addr) (d : List Int), bs[i]? = some b → ds[i]? = some d → FrzT H b (d.map V.int)) {i : Nat} {x : V} (e : (bs.map V.ref)[i]? = some x) :
    ∃ b d, x = .ref b ∧ bs[i]? = some b ∧ ds[i]? = some d ∧ FrzT H b (d.map V.int) := by
  rw [List.getElem?_map] at e
  obtain ⟨b, hb, rfl⟩ := Option.map_eq_some_iff.mp e
  have hi := (List.getElem?_eq_some_iff.mp hb).1
  exact ⟨b, ds[i], rfl, hb, List.getElem?_eq_getElem (by omega), h3 i b _ hb (List.getElem?_eq_getElem (by omega))⟩
structure IsRec (ws : List Int) (ds : List (List Int)) : Prop where
  m1 : 1 ≤ ds.length
  m7 : ds.length ≤ 7
  p30 : ws.length ≤ 30
  wr : ∀ w ∈ ws, 0 ≤ w ∧ w < ds.length
  nd : ∀ d ∈ ds, d.Nodup
  rng : ∀ d ∈ ds, ∀ p ∈ d, 0 ≤ p ∧ p < ws.length
  own : ∀ (p : Nat) (w : Int) (d : List Int), ws[p]? = some w → ds[w.toNat]? = some d → (p : Int) ∈ d
theorem diary_len {n : Nat} {d : List Int} (nd : d.Nodup) (h : ∀ p ∈ d, 0 ≤ p ∧ p < (n : Int)) : d.length ≤ n := by
  have := List.Nodup.length_le_of_subset (l₂ := (List.range n).map fun (i : Nat) => (i : Int)) nd fun x hx => by
    have := h x hx
    exact List.mem_map.mpr ⟨x.toNat, List.mem_range.mpr (by omega), by omega⟩
  simpa using this
def sp_is_diary (K : PySem.W.Frag) : Sp := fun vs H Q _ => ∃ (n : Int) (p : Addr) (d : List Int), vs = [.int n, .ref p] ∧ SqT K H p (d.map V.int) ∧ (∀ x ∈ d, 0 ≤ x ∧ x < n) ∧ d.Nodup ∧ d.length ≤ 1000 ∧ ∀ H', G none H H' → Q (.bl true) H'
theorem ok_is_diary (T : Txt K mg a) : FnOk P w K mg base CX0 5 a.f_is_diary a.d_is_diary P_is_diary (sp_is_diary K) := by
  refine T.F_is_diary.ok sc_is_diary (fun vs H Q E h => by obtain ⟨n, p, d, rfl, _⟩ := h; rfl) (fun cdv A outer s H vs Q E hr h => ?_)
  obtain ⟨n, p, d, rfl, hp, hd, nd, hz, k⟩ := h
  have G_are_below : FnOk P w K mg base CX0 4 a.f_are_below a.d_are_below P_are_below (sp_are_below K) := ok_are_below T
  refine ⟨_, (pss_one (ps_ret (pe_and (pe_callB call_isi (by rfl) T.n_isinstance (by decide +kernel) (pa_cons (pv 1) (pa_cons (pe_bltn (v := .ty "tuple") (u := .type "tuple") rfl T.n_tuple (by decide +kernel) rfl) pa_nil))) (pe_and (pe_call (G_are_below) (hr.mono (by omega)) rfl T.m_are_below T.F_are_below.kp T.b_are_below .nil pass0 (pa_cons (pv 0) (pa_cons (pv 1) pa_nil))) (pe_one (pe_cmpR op_eq (pe_lenSetTI rfl (by rfl) T.n_len (by rfl) T.n_set (pv 1)) (pe_callB call_len_seq (by rfl) T.n_len (by decide +kernel) (pa_cons (pv 1) pa_nil)) (nomark _))))))), ?_⟩
  walk_at "ws"
  refine r_isi (tyx_tup hp) ki_tt ?_
  walk_at "ws"
  refine ⟨n, p, d, rfl, hp, by omega, fun H1 g1 => ?_⟩
  have e1 : d.all (inB n) = true := by
    rw [List.all_eq_true]
    intro x hx
    have := hd x hx
    simp only [inB, Bool.and_eq_true, decide_eq_true_eq]
    exact this
  rw [e1]
  walk_at "ws"
  refine ⟨.ref p, rfl, p, d, rfl, sqT_t g1.tups hp, hz, nd, ?_⟩
  walk_at "ws"
  refine ⟨p, _, rfl, .inr (sqT_t g1.tups hp), ?_⟩
  walk_at "ws"
  rw [List.length_map, decide_eq_true (rfl : (d.length : Int) = d.length)]
  exact k _ g1

def sp_check_record (K : PySem.W.Frag) : Sp := fun vs H Q _ => ∃ (wp dp : Addr) (ws : List Int) (ds : List (List Int)), vs = [.ref wp, .ref dp] ∧ SqT K H wp (ws.map V.int) ∧ Dia K H dp ds ∧ IsRec ws ds ∧ ∀ H', G none H H' → Q .non H'
theorem ok_check_record (T : Txt K mg a) : FnOk P w K mg base CX0 6 a.f_check_record a.d_check_record P_check_record (sp_check_record K) := by
  refine T.F_check_record.ok sc_check_record (fun vs H Q E h => by obtain ⟨wp, dp, ws, ds, rfl, _⟩ := h; rfl) (fun cdv A outer s H vs Q E hr h => ?_)
  obtain ⟨wp, dp, ws, ds, rfl, hw, hdia, rec, k⟩ := h
  have G_is_tuple_of : FnOk P w K mg base CX0 1 a.f_is_tuple_of a.d_is_tuple_of P_is_tuple_of (sp_is_tuple_of K) := ok_is_tuple_of T
  have G_is_below : FnOk P w K mg base CX0 3 a.f_is_below a.d_is_below P_is_below sp_is_below := ok_is_below T
  have G_is_diary : FnOk P w K mg base CX0 5 a.f_is_diary a.d_is_diary P_is_diary (sp_is_diary K) := ok_is_diary T
  obtain ⟨bs, hbs, lb, hb⟩ := hdia
  have m1 := rec.m1
  have m7 := rec.m7
  have p30 := rec.p30
  refine ⟨_, (pss_cons (ps_if (pt_not (pt_val (pe_call (G_is_tuple_of) (hr.mono (by omega)) rfl T.m_is_tuple_of T.F_is_tuple_of.kp T.b_is_tuple_of .nil pass0 (pa_cons pe_int (pa_cons (pe_glob (v := .int 7) rfl T.m_MOST_MACHINES ⟨_, rfl⟩) (pa_cons (pv 1) pa_nil))))))
    pss_never
    pss_nil)
  (pss_cons (ps_if (pt_not (pt_val (pe_call (G_is_tuple_of) (hr.mono (by omega)) rfl T.m_is_tuple_of T.F_is_tuple_of.kp T.b_is_tuple_of .nil pass0 (pa_cons pe_int (pa_cons (pe_glob (v := .int 30) rfl T.m_MOST_PUTS ⟨_, rfl⟩) (pa_cons (pv 0) pa_nil))))))
    pss_never
    pss_nil)
  (pss_cons (ps_for PassesOwn.never rfl (pi_enumT (by rfl) T.n_enumerate (pa_cons (pv 0) pa_nil)) (pg_tup rfl (pgs_cons (pg_name (i := 2) sc_check_record.nd rfl (Or.inl rfl)) (pgs_cons (pg_name (i := 3) sc_check_record.nd rfl (Or.inl rfl)) pgs_nil)))
    (pss_one (ps_if (pt_not (pt_val (pe_call (G_is_below) (hr.mono (by omega)) rfl T.m_is_below T.F_is_below.kp T.b_is_below .nil pass0 (pa_cons (pe_callB call_len_seq (by rfl) T.n_len (by decide +kernel) (pa_cons (pv 1) pa_nil)) (pa_cons (pv 3) pa_nil)))))
    pss_never
    pss_nil)))
  (pss_cons (ps_for PassesOwn.never rfl (pi_enumT (by rfl) T.n_enumerate (pa_cons (pv 1) pa_nil)) (pg_tup rfl (pgs_cons (pg_name (i := 4) sc_check_record.nd rfl (Or.inl rfl)) (pgs_cons (pg_name (i := 5) sc_check_record.nd rfl (Or.inl rfl)) pgs_nil)))
    (pss_one (ps_if (pt_not (pt_val (pe_call (G_is_diary) (hr.mono (by omega)) rfl T.m_is_diary T.F_is_diary.kp T.b_is_diary .nil pass0 (pa_cons (pe_callB call_len_seq (by rfl) T.n_len (by decide +kernel) (pa_cons (pv 0) pa_nil)) (pa_cons (pv 5) pa_nil)))))
    pss_never
    pss_nil)))
  (pss_one (ps_for PassesOwn.never rfl (pi_enumT (by rfl) T.n_enumerate (pa_cons (pv 0) pa_nil)) (pg_tup rfl (pgs_cons (pg_name (i := 2) sc_check_record.nd rfl (Or.inl rfl)) (pgs_cons (pg_name (i := 3) sc_check_record.nd rfl (Or.inl rfl)) pgs_nil)))
    (pss_one (ps_if (pt_cmpR op_notIn_seq (pv 2) (pe_ix ix_tup (pv 1) (pv 3) (fun _ _ => rfl)) (by rfl))
    pss_never
    pss_nil)))))))), ?_⟩
  walk_at "ws"
  refine ⟨1, 7, dp, _, rfl, hbs, ?_⟩
  have q1 : (1 : Int) ≤ (bs.length : Int) := by omega
  have q2 : (bs.length : Int) ≤ 7 := by omega
  rw [List.length_map, decide_eq_true q1, decide_eq_true q2, Bool.and_self]
  walk_at "ws"
  refine ⟨0, 30, wp, _, rfl, hw, ?_⟩
  have q3 : (0 : Int) ≤ (ws.length : Int) := by omega
  have q4 : (ws.length : Int) ≤ 30 := by omega
  rw [List.length_map, decide_eq_true q3, decide_eq_true q4, Bool.and_self]
  walk_at "ws"
  refine i_enum hw ?_
  refine for_it (walk_enumT (xs := ws.map V.int)) (fun i σ H1 => G none H H1 ∧ ∃ u2 u3 u4 u5, σ = [some (.ref wp), some (.ref dp), u2, u3, u4, u5]) ⟨G.refl, _, _, _, _, rfl⟩ (fun i σ H1 _ h => sqT_t h.1.tups hw) ?_ ?_
  · rintro i x σ H1 H2 hi ⟨g1, u2, u3, u4, u5, rfl⟩ ⟨t, y, z, rfl, ht, rfl, ey, ez⟩
    cases Option.some.inj ey
    have g2 : G none H1 (upd H1 t (.tup [.int (i : Nat), z])) := G.alloc ht
    refine ⟨t, _, rfl, SqT.of upd_same, rfl, ?_⟩
    refine ⟨_, _, rfl, ?_⟩
    walk_at "ws"
    refine ⟨_, _, rfl, ?_⟩
    walk_at "ws"
    refine ⟨rfl, ?_⟩
    generalize upd H1 t (.tup [.int (i : Nat), z]) = H2 at g2 ⊢
    have g02 := g1.trans g2
    have ez : (ws.map V.int)[i]? = some z := ez
    rw [List.getElem?_map] at ez
    obtain ⟨w0, hw0, rfl⟩ := Option.map_eq_some_iff.mp ez
    have wm := rec.wr w0 (List.mem_of_getElem? hw0)
    walk_at "ws"
    refine ⟨dp, _, rfl, .inr (sqT_t g02.tups hbs), ?_⟩
    walk_at "ws"
    rw [List.length_map]
    refine ⟨_, _, rfl, ?_⟩
    have q5 : w0 < (bs.length : Int) := by omega
    rw [decide_eq_true wm.1, decide_eq_true q5, Bool.and_self]
    walk_at "ws"
    exact ⟨g02, _, _, _, _, rfl⟩
  rintro σ H1 ⟨g1, u2, u3, u4, u5, rfl⟩
  walk_at "ws"
  refine i_enum (sqT_t g1.tups hbs) ?_
  refine for_it (walk_enumT (xs := bs.map V.ref)) (fun i σ H1 => G none H H1 ∧ ∃ u2 u3 u4 u5, σ = [some (.ref wp), some (.ref dp), u2, u3, u4, u5]) ⟨g1, _, _, _, _, rfl⟩ (fun i σ H1 _ h => sqT_t h.1.tups hbs) ?_ ?_
  · rintro i x σ H2 H3 hi ⟨g2, u2, u3, u4, u5, rfl⟩ ⟨t, y, z, rfl, ht, rfl, ey, ez⟩
    cases Option.some.inj ey
    have g3 : G none H2 (upd H2 t (.tup [.int (i : Nat), z])) := G.alloc ht
    refine ⟨t, _, rfl, SqT.of upd_same, rfl, ?_⟩
    refine ⟨_, _, rfl, ?_⟩
    walk_at "ws"
    refine ⟨_, _, rfl, ?_⟩
    walk_at "ws"
    refine ⟨rfl, ?_⟩
    generalize upd H2 t (.tup [.int (i : Nat), z]) = H3 at g3 ⊢
    have g03 := g2.trans g3
    obtain ⟨b, d, rfl, hbi, hdi, hf⟩ := Dia.at_ (p := dp) lb hb ez
    walk_at "ws"
    refine ⟨wp, _, rfl, .inr (sqT_t g03.tups hw), ?_⟩
    walk_at "ws"
    rw [List.length_map]
    have dm := List.mem_of_getElem? hdi
    refine ⟨_, b, d, rfl, (hf.n g03).sq, rec.rng d dm, rec.nd d dm, by have := diary_len (rec.nd d dm) (rec.rng d dm); omega, fun H4 g4 => ?_⟩
    walk_at "ws"
    exact ⟨g03.trans g4, _, _, _, _, rfl⟩
  rintro σ H2 ⟨g2, u2, u3, u4, u5, rfl⟩
  walk_at "ws"
  refine i_enum (sqT_t g2.tups hw) ?_
  refine for_it (walk_enumT (xs := ws.map V.int)) (fun i σ H1 => G none H H1 ∧ ∃ u2 u3 u4 u5, σ = [some (.ref wp), some (.ref dp), u2, u3, u4, u5]) ⟨g2, _, _, _, _, rfl⟩ (fun i σ H1 _ h => sqT_t h.1.tups hw) ?_ ?_
  · rintro i x σ H3 H4 hi ⟨g3, u2, u3, u4, u5, rfl⟩ ⟨t, y, z, rfl, ht, rfl, ey, ez⟩
    cases Option.some.inj ey
    have g4 : G none H3 (upd H3 t (.tup [.int (i : Nat), z])) := G.alloc ht
    refine ⟨t, _, rfl, SqT.of upd_same, rfl, ?_⟩
    refine ⟨_, _, rfl, ?_⟩
    walk_at "ws"
    refine ⟨_, _, rfl, ?_⟩
    walk_at "ws"
    refine ⟨rfl, ?_⟩
    generalize upd H3 t (.tup [.int (i : Nat), z]) = H4 at g4 ⊢
    have g04 := g3.trans g4
    have ez : (ws.map V.int)[i]? = some z := ez
    rw [List.getElem?_map] at ez
    obtain ⟨w0, hw0, rfl⟩ := Option.map_eq_some_iff.mp ez
    have wm := rec.wr w0 (List.mem_of_getElem? hw0)
    obtain ⟨b, hbw⟩ : ∃ b, bs[w0.toNat]? = some b := ⟨_, List.getElem?_eq_getElem (by omega)⟩
    obtain ⟨d, hdw⟩ : ∃ d, ds[w0.toNat]? = some d := ⟨_, List.getElem?_eq_getElem (by omega)⟩
    have hf := (hb _ _ _ hbw hdw).n g04
    walk_at "ws"
    refine r_ixT (sqT_t g04.tups hbs) (v := .ref b) (at_of (j := w0.toNat) (by omega) (by rw [List.getElem?_map, hbw]; rfl)) ?_
    walk_at "ws"
    refine ⟨b, _, rfl, .inr hf.sq, rfl, by rw [List.all_map, List.all_eq_true]; intro q _; rfl, ?_⟩
    have ein : inV (.int (i : Nat)) (d.map V.int) = true := by
      unfold inV
      rw [List.any_map, List.any_eq_true]
      exact ⟨_, rec.own i w0 d hw0 hdw, by simp [eqV]⟩
    rw [ein]
    walk_at "ws"
    exact ⟨g04, _, _, _, _, rfl⟩
  rintro σ H3 ⟨g3, u2, u3, u4, u5, rfl⟩
  exact k _ g3

end
end Mine
/-! ## K4 -/


namespace Mine
section
variable {P : Program} {w : World} {K : PySem.W.Frag} {mg : Str → Option Value} {base : Heap} {a : Ads}

/-! ### a record as an instance -/
theorem wd_ : ¬ (("writers" : Str) = "diaries") := by decide +kernel
theorem dw_ : ¬ (("diaries" : Str) = "writers") := by decide +kernel
def rf (w d : V) : List (Str × V) := [("writers", w), ("diaries", d)]
theorem rf_w (w d : V) : (rf w d).lookup ("writers" : Str) = some w := by simp [rf, List.lookup]
theorem rf_d (w d : V) : (rf w d).lookup ("diaries" : Str) = some d := by
  have e : (("diaries" : Str) == "writers") = false := by simpa using dw_
  simp [rf, List.lookup, e]
theorem rput0 (w : V) : putF "writers" w [] = [(("writers" : Str), w)] := rfl
theorem rput1 (w d : V) : putF "diaries" d [(("writers" : Str), w)] = rf w d := by
  show (if ("writers" : Str) = "diaries" then _ else (("writers" : Str), w) :: putF "diaries" d []) = _
  rw [if_neg wd_]; rfl
def RecAt (K : PySem.W.Frag) (C : Addr) (H : Hp) (x : Addr) (ws : List Int) (ds : List (List Int)) : Prop := ∃ (dx wp dp : Addr), H x = some (.ins C dx (rf (.ref wp) (.ref dp))) ∧ SqT K H wp (ws.map V.int) ∧ Dia K H dp ds
theorem RecAt.n {C x : Addr} {ws : List Int} {ds : List (List Int)} {H H' : Hp} (h : RecAt K C H x ws ds) (g : G none H H') : RecAt K C H' x ws ds := by
  obtain ⟨dx, wp, dp, h1, h2, h3⟩ := h
  exact ⟨dx, wp, dp, g.all x _ h1, sqT_t g.tups h2, h3.n g⟩
theorem r_fld {o : Addr} {C dx : Addr} {fs : List (Str × V)} {v : V} {f : Str} {H : Hp} {F : V → Prop} (e : H o = some (.ins C dx fs)) (c : Cls K C) (n : NoAttr K C f) (l : fs.lookup f = some v) (q : F v) :
    ∃ a C dx fs v, V.ref o = .ref a ∧ H a = some (.ins C dx fs) ∧ Cls K C ∧ NoAttr K C f ∧ fs.lookup f = some v ∧ F v := ⟨o, C, dx, fs, v, rfl, e, c, n, l, q⟩
theorem r_sfld {o : Addr} {C dx : Addr} {fs : List (Str × V)} {F : Hp → Prop} {f : Str} {y : V} {H : Hp} (e : H o = some (.ins C dx fs)) (c : Cls K C) (n : NoAttr K C f) (l : fs.length < 1000) (q : F (upd H o (.ins C dx (putF f y fs)))) :
    ∃ a C dx fs, V.ref o = .ref a ∧ H a = some (.ins C dx fs) ∧ Cls K C ∧ NoAttr K C f ∧ fs.length < 1000 ∧ F (upd H a (.ins C dx (putF f y fs))) := ⟨o, C, dx, fs, rfl, e, c, n, l, q⟩
theorem ts_updI {H : Hp} {x C dx : Addr} {fs : List (Str × V)} {u : HO} (h : H x = some (.ins C dx fs)) : Ts H (upd H x u) := fun a xs e => by
  rcases e with e | ⟨ob, e⟩
  · exact .inl (by rw [upd_ne (ne_of e h (by intro z; cases z))]; exact e)
  · exact .inr ⟨ob, by rw [upd_ne (ne_of e h (by intro z; cases z))]; exact e⟩
def sp_Record_init (K : PySem.W.Frag) (C : Addr) : Sp := fun vs H Q _ => ∃ (x dx wp dp : Addr) (ws : List Int) (ds : List (List Int)), vs = [.ref x, .ref wp, .ref dp] ∧ H x = some (.ins C dx []) ∧ SqT K H wp (ws.map V.int) ∧ Dia K H dp ds ∧ IsRec ws ds ∧
  ∀ H', (∀ b u, b ≠ x → H b = some u → H' b = some u) → H' x = some (.ins C dx (rf (.ref wp) (.ref dp))) → Q .non H'
theorem ok_Record_init (T : Txt K mg a) : FnOk P w K mg base CX0 7 a.f_Record_init a.d_Record_init P_Record_init (sp_Record_init K a.c_Record) := by
  refine T.F_Record_init.ok sc_Record_init (fun vs H Q E h => by obtain ⟨x, dx, wp, dp, ws, ds, rfl, _⟩ := h; rfl) (fun cdv A outer s H vs Q E hr h => ?_)
  obtain ⟨x, dx, wp, dp, ws, ds, rfl, hxi, hw, hd, rec, k⟩ := h
  have G_check_record : FnOk P w K mg base CX0 6 a.f_check_record a.d_check_record P_check_record (sp_check_record K) := ok_check_record T
  refine ⟨_, (pss_cons (ps_expr (pe_call (G_check_record) (hr.mono (by omega)) rfl T.m_check_record T.F_check_record.kp T.b_check_record .nil pass0 (pa_cons (pv 1) (pa_cons (pv 2) pa_nil))))
  (pss_cons (ps_fld (pv 0) (pv 1) rfl)
  (pss_one (ps_fld (pv 0) (pv 2) rfl)))), ?_⟩
  walk_at "ws"
  refine ⟨wp, dp, ws, ds, rfl, hw, hd, rec, fun H1 g1 => ?_⟩
  walk_at "ws"
  have h1 := g1.all _ _ hxi
  refine r_sfld h1 T.cl_Record T.na_Record_writers (by show 0 < 1000; decide) ?_
  walk_at "ws"
  refine r_sfld upd_same T.cl_Record T.na_Record_diaries (by rw [rput0]; show 1 < 1000; decide) ?_
  rw [rput0, rput1]
  refine k _ (fun b u n e => ?_) upd_same
  rw [upd_ne n, upd_ne n]; exact g1.all _ _ e

theorem rec_new {C : Addr} {H1 : Hp} {wp dp : Addr} {ws : List Int} {ds : List (List Int)} {F : Addr → Hp → Prop} {E : XK} (hw : SqT K H1 wp (ws.map V.int)) (hd : Dia K H1 dp ds) (rec : IsRec ws ds) (q : ∀ x H2, H1 x = none → (∀ o, G o H1 H2) → RecAt K C H2 x ws ds → F x H2) :
    ∀ x dx, H1 x = none → H1 dx = none → dx ≠ x → sp_Record_init K C (.ref x :: ([.ref wp, .ref dp] ++ [])) (upd (upd H1 dx (.own x)) x (.ins C dx [])) (fun v H2 => v = .non ∧ F x H2) E := by
  intro x dx hx hdx nex
  have hxi : (upd (upd H1 dx (.own x)) x (.ins C dx [])) x = some (.ins C dx []) := upd_same
  have k12 : ∀ a u, H1 a = some u → (upd (upd H1 dx (.own x)) x (.ins C dx [])) a = some u := fun a u e => by
    rw [upd_ne (ne_of_none e hx), upd_ne (ne_of_none e hdx)]; exact e
  have g12 : G none H1 (upd (upd H1 dx (.own x)) x (.ins C dx [])) := G.of_all k12
  refine ⟨x, dx, wp, dp, ws, ds, rfl, hxi, sqT_t g12.tups hw, hd.n g12, rec, fun H2 k2 h2 => ⟨rfl, ?_⟩⟩
  have g : ∀ o, G o H1 H2 := fun o => G.of_all fun a u e => k2 a u (ne_of_none e hx) (k12 a u e)
  exact q x H2 hx g ⟨dx, wp, dp, h2, sqT_t (g none).tups hw, hd.n (g none)⟩
theorem bools_told {H : Hp} {α : Type} {f : α → Bool} : ∀ {xs : List V} {l : List α}, DpAll K H xs (l.map fun z => PyData.bool (f z)) → xs = (l.map f).map V.bl
  | _, [], h => by cases h; rfl
  | _, z :: l, h => by
    cases h with
    | cons h t => cases h; rw [bools_told t]; rfl
def sp_is_whole (K : PySem.W.Frag) (C : Addr) : Sp := fun vs H Q _ => ∃ (x : Addr) (ws : List Int) (ds : List (List Int)), vs = [.ref x] ∧ RecAt K C H x ws ds ∧ ds.length ≤ 1000 ∧ ∀ H', G none H H' → Q (.bl (ds.all fun d => decide (d.length = ws.length))) H'
theorem ok_is_whole (T : Txt K mg a) : FnOk P w K mg base CX0 1 a.f_is_whole a.d_is_whole P_is_whole (sp_is_whole K a.c_Record) := by
  refine T.F_is_whole.ok sc_is_whole (fun vs H Q E h => by obtain ⟨x, ws, ds, rfl, _⟩ := h; rfl) (fun cdv A outer s H vs Q E hr h => ?_)
  obtain ⟨x, ws, ds, rfl, ⟨dx, wp, dp, hxi, hw, bs, hbs, lb, hb⟩, hz, k⟩ := h
  refine ⟨_, (pss_one (ps_ret (pe_callB (cr_all rfl) (by rfl) T.n_all (by decide +kernel) (pa_cons (pe_lc (own := [("diary", 1)]) (g := (gName 1)) (tt := tYes) rfl sc_is_whole.nd (pi_tup (pe_fld (pv 0) rfl)) (blkOk_by (N := N_is_whole) (sc := defScope s_is_whole) (by decide +kernel)) (fun _ _ _ _ _ => (pg_name (i := 1) sc_is_whole.nd rfl (by first | exact Or.inl rfl | exact Or.inr rfl))) (fun _ _ _ _ _ => pts_nil) (fun _ _ _ _ _ => (pe_cmpR op_eq (pe_callB (k_call_len_seq K) (by rfl) T.n_len (by decide +kernel) (pa_cons (pv 1) pa_nil)) (pe_callB (k_call_len_seq K) (by rfl) T.n_len (by decide +kernel) (pa_cons (k_fld K (pv 0) rfl) pa_nil)) (nomark _)))) pa_nil)))), ?_⟩
  walk_at "ws"
  refine r_fld hxi T.cl_Record T.na_Record_diaries (rf_d _ _) ?_
  refine i_tup hbs ?_
  intro D hD
  refine lc_pure (K := K) (o := none) (walk_tup (xs := bs.map V.ref)) (by rw [List.length_map]; omega) hD (fun _ e => nomatch e) (fun i => ds[i]?.map fun d => PyData.bool (decide (d.length = ws.length))) (fun H' g => sqT_t g.tups hbs) ?_ ?_
  · rintro i y _ H2 hi g ⟨rfl, hy⟩ Qy Qn ky kn
    obtain ⟨b, d, rfl, _, hd, hf⟩ := Dia.at_ (p := dp) lb hb hy
    walk_at "ws"
    refine ⟨rfl, ?_⟩
    walk_at "ws"
    refine ⟨b, _, rfl, .inr (hf.n g).sq, ?_⟩
    walk_at "ws"
    refine r_fld (g.all _ _ hxi) T.cl_Record T.na_Record_writers (rf_w _ _) ?_
    refine ⟨wp, _, rfl, .inr (sqT_t g.tups hw), ?_⟩
    walk_at "ws"
    refine ky _ _ _ G.refl (.bl _) rfl ?_
    rw [hd, List.length_map, List.length_map]
    simp
    omega
  · intro xs H2 g hD2 hds _
    rw [List.length_map, lb, filterMap_range_map] at hds
    obtain rfl := bools_told hds
    walk_at "ws"
    refine ⟨D, _, rfl, SqL.of hD2, ?_⟩
    have e : (ds.map fun d => decide (d.length = ws.length)).all id = ds.all fun d => decide (d.length = ws.length) := by rw [List.all_map]; rfl
    rw [e]
    exact k _ g

end
end Mine
/-! ## K5 -/


namespace Mine
section
variable {P : Program} {w : World} {K : PySem.W.Frag} {mg : Str → Option Value} {base : Heap} {a : Ads}

/-! ### what was ahead -/
/-- t[lo:hi] of a tuple -/
def rSlAN (K : PySem.W.Frag) : V → Option Int → Option Int → Hp → VK → Prop := fun x lo hi H Q => ∃ a xs, x = .ref a ∧ SqT K H a xs ∧ ∀ p H2, (∀ o, G o H H2) → SqT K H2 p (cutV xs lo hi) → Q (.ref p) H2
theorem sl_tupAN {X : Cx} : SlR X (rSlAN X.K) := SlR.weak sl_tupA fun x lo hi H Q ⟨a, xs, e, h, q⟩ => ⟨a, xs, e, h, fun w => q a H (fun _ => G.refl) (by
    have c : cutV xs lo hi = xs := by
      unfold cutV
      rw [w.1, w.2, List.drop_zero, Nat.sub_zero, List.take_length]
    rw [c]; exact h), fun _ p hp => q p _ (fun _ => G.alloc hp) (SqT.of upd_same)⟩
theorem cut_to (xs : List V) {k : Nat} (h : k ≤ xs.length) : cutV xs none (some (k : Int)) = xs.take k := by
  unfold cutV
  rw [HT.sIx_none, HT.sIx_nat, List.drop_zero, Nat.sub_zero, Nat.min_eq_left h]
def ahd (d : List Int) (p : Int) : List Int := d.take (d.idxOf p)
def sp_ahead (K : PySem.W.Frag) (C : Addr) : Sp := fun vs H Q _ => ∃ (x : Addr) (ws : List Int) (ds : List (List Int)) (y p : Nat) (d : List Int), vs = [.ref x, .int y, .int p] ∧ RecAt K C H x ws ds ∧ IsRec ws ds ∧ ds[y]? = some d ∧ p < ws.length ∧
  ((p : Int) ∉ d → ∀ H', G none H H' → Q .non H') ∧ ((p : Int) ∈ d → ∀ (q : Addr) (os : List Int) H', G none H H' → SqT K H' q (os.map V.int) → os.Perm (ahd d p) → os.Pairwise (· ≤ ·) → Q (.ref q) H')
theorem idx_lt {os : List Int} {z : Int} (h : z ∈ os) : os.idxOf z < os.length := List.idxOf_lt_length_iff.mpr h
theorem idx_at {os : List Int} {z : Int} (h : z ∈ os) : os[os.idxOf z]? = some z := by
  rw [List.getElem?_eq_getElem (idx_lt h)]
  exact congrArg some (List.getElem_idxOf (idx_lt h))
theorem idx_of {os : List Int} (nd : os.Nodup) {j : Nat} {z : Int} (h : os[j]? = some z) : os.idxOf z = j := nd_ix nd (idx_at (List.mem_of_getElem? h)) h
def sp_check_put (K : PySem.W.Frag) (C : Addr) : Sp := fun vs H Q _ => ∃ (x : Addr) (ws : List Int) (ds : List (List Int)) (p : Nat), vs = [.ref x, .int p] ∧ RecAt K C H x ws ds ∧ p < ws.length ∧ Q .non H
theorem ok_check_put (T : Txt K mg a) : FnOk P w K mg base CX0 4 a.f_check_put a.d_check_put P_check_put (sp_check_put K a.c_Record) := by
  refine T.F_check_put.ok sc_check_put (fun vs H Q E h => by obtain ⟨x, ws, ds, p, rfl, _⟩ := h; rfl) (fun cdv A outer s H vs Q E hr h => ?_)
  obtain ⟨x, ws, ds, p, rfl, ⟨dx, wp, dp, hxi, hw, hdia⟩, hp, k⟩ := h
  have G_is_below : FnOk P w K mg base CX0 3 a.f_is_below a.d_is_below P_is_below sp_is_below := ok_is_below T
  refine ⟨_, (pss_one (ps_if (pt_not (pt_val (pe_call (G_is_below) (hr.mono (by omega)) rfl T.m_is_below T.F_is_below.kp T.b_is_below .nil pass0 (pa_cons (pe_callB call_len_seq (by rfl) T.n_len (by decide +kernel) (pa_cons (pe_fld (pv 0) rfl) pa_nil)) (pa_cons (pv 1) pa_nil)))))
    pss_never
    pss_nil)), ?_⟩
  walk_at "ws"
  refine r_fld hxi T.cl_Record T.na_Record_writers (rf_w _ _) ?_
  refine ⟨wp, _, rfl, .inr hw, ?_⟩
  walk_at "ws"
  rw [List.length_map]
  refine ⟨_, _, rfl, ?_⟩
  have q3 : (0 : Int) ≤ (p : Int) := by omega
  have q4 : (p : Int) < (ws.length : Int) := by omega
  rw [decide_eq_true q3, decide_eq_true q4, Bool.and_self]
  walk_at "ws"
  exact k
theorem ok_ahead (T : Txt K mg a) : FnOk P w K mg base CX0 5 a.f_ahead a.d_ahead P_ahead (sp_ahead K a.c_Record) := by
  refine T.F_ahead.ok sc_ahead (fun vs H Q E h => by obtain ⟨x, ws, ds, y, p, d, rfl, _⟩ := h; rfl) (fun cdv A outer s H vs Q E hr h => ?_)
  obtain ⟨x, ws, ds, y, p, d, rfl, ⟨dx, wp, dp, hxi, hw, bs, hbs, lb, hb⟩, rec, hdy, hp, kn, ky⟩ := h
  have G_is_below : FnOk P w K mg base CX0 3 a.f_is_below a.d_is_below P_is_below sp_is_below := ok_is_below T
  have G_check_put : FnOk P w K mg base CX0 4 a.f_check_put a.d_check_put P_check_put (sp_check_put K a.c_Record) := ok_check_put T
  have hy : y < ds.length := (List.getElem?_eq_some_iff.mp hdy).1
  have m7 := rec.m7
  have p30 := rec.p30
  have dm := List.mem_of_getElem? hdy
  obtain ⟨b, hby⟩ : ∃ b, bs[y]? = some b := ⟨_, List.getElem?_eq_getElem (by omega)⟩
  have hf := hb y b d hby hdy
  have dl := diary_len (rec.nd d dm) (rec.rng d dm)
  refine ⟨_, (pss_cons (ps_if (pt_not (pt_val (pe_call (G_is_below) (hr.mono (by omega)) rfl T.m_is_below T.F_is_below.kp T.b_is_below .nil pass0 (pa_cons (pe_callB call_len_seq (by rfl) T.n_len (by decide +kernel) (pa_cons (pe_fld (pv 0) rfl) pa_nil)) (pa_cons (pv 1) pa_nil)))))
    pss_never
    pss_nil)
  (pss_cons (ps_expr (pe_call (G_check_put) (hr.mono (by omega)) rfl T.m_check_put T.F_check_put.kp T.b_check_put .nil pass0 (pa_cons (pv 0) (pa_cons (pv 2) pa_nil))))
  (pss_cons (ps_set (i := 3) sc_ahead.nd rfl (Or.inl rfl) (pe_ix ix_tup (pe_fld (pv 0) rfl) (pv 1) (fun _ _ => rfl)))
  (pss_cons (ps_if (pt_cmpR op_notIn_seq (pv 2) (pv 3) (by rfl))
    (pss_one (ps_ret pe_non))
    pss_nil)
  (pss_one (ps_ret (pe_callTy call_tupleN (by rfl) T.n_tuple (by decide +kernel) (pa_cons (pe_callB cr_sortedIT (by rfl) T.n_sorted (by decide +kernel) (pa_cons (pe_slice sl_tupAN (pv 3) po_none (po_some (pe_bmT PySem.F.plainAttrs_tuple PySem.F.slot_tuple_index PySem.F.type_tuple_index mt_indexTI (pv 3) (pa_cons (pv 2) pa_nil)))) pa_nil)) pa_nil)))))))), ?_⟩
  walk_at "ws"
  refine r_fld hxi T.cl_Record T.na_Record_diaries (rf_d _ _) ?_
  refine ⟨dp, _, rfl, .inr hbs, ?_⟩
  walk_at "ws"
  rw [List.length_map]
  refine ⟨_, _, rfl, ?_⟩
  have q1 : (0 : Int) ≤ (y : Int) := by omega
  have q2 : (y : Int) < (bs.length : Int) := by omega
  rw [decide_eq_true q1, decide_eq_true q2, Bool.and_self]
  walk_at "ws"
  refine ⟨x, ws, ds, p, rfl, ⟨dx, wp, dp, hxi, hw, bs, hbs, lb, hb⟩, hp, ?_⟩
  walk_at "ws"
  refine r_fld hxi T.cl_Record T.na_Record_diaries (rf_d _ _) ?_
  walk_at "ws"
  refine r_ixT hbs (v := .ref b) (at_of (j := y) rfl (by rw [List.getElem?_map, hby]; rfl)) ?_
  walk_at "ws"
  refine ⟨b, _, rfl, .inr hf.sq, rfl, by rw [List.all_map, List.all_eq_true]; intro q _; rfl, ?_⟩
  have ein : inV (.int (p : Int)) (d.map V.int) = decide ((p : Int) ∈ d) := by
    unfold inV
    rw [List.any_map, Bool.eq_iff_iff, List.any_eq_true, decide_eq_true_iff]
    constructor
    · rintro ⟨z, hz, e⟩
      have e : z = (p : Int) := by simpa [eqV] using e
      exact e ▸ hz
    · intro h
      exact ⟨_, h, by simp [eqV]⟩
  rw [ein]
  by_cases c : (p : Int) ∈ d
  · rw [decide_eq_true c]
    walk_at "ws"
    refine w_iteN rfl ?_
    walk_at "ws"
    refine w_bmt ?_
    walk_at "ws"
    refine ⟨⟨b, _, rfl, hf⟩, ?_⟩
    walk_at "ws"
    refine ⟨b, d, (p : Int), d.idxOf (p : Int), rfl, rfl, hf.sq, idx_at c, fun j hj e => ?_, ?_⟩
    · have := idx_of (rec.nd d dm) e
      omega
    walk_at "ws"
    have li := idx_lt c
    refine ⟨b, _, rfl, hf.sq, fun t H2 g2 h2 => ?_⟩
    rw [cut_to _ (by rw [List.length_map]; omega), ← List.map_take] at h2
    walk_at "ws"
    refine ⟨t, ahd d p, rfl, h2, fun ns pm pw l H3 hl g3 h3 => ?_⟩
    walk_at "ws"
    refine ⟨l, _, rfl, .inl ⟨SqL.of h3, fun q H4 hq g4 h4 => ?_⟩⟩
    exact ky c q ns H4 (((g2 none).trans (g3 none)).trans (g4 none)) (SqT.of h4) pm pw
  · rw [decide_eq_false c]
    walk_at "ws"
    refine w_iteE rfl ?_
    walk_at "ws"
    exact kn c _ G.refl

end
end Mine
/-! ## K6 -/


namespace Mine
section
variable {P : Program} {w : World} {K : PySem.W.Frag} {mg : Str → Option Value} {base : Heap} {a : Ads}

/-! ### the hand of draws -/
def sp__law_hand (K : PySem.W.Frag) : Sp := fun vs H Q _ => ∃ (s : Addr) (ns : List Int), vs = [.ref s] ∧ SqL K H s (ns.map V.int) ∧ ns.length ≤ 63 ∧ ∀ hd c H', G none H H' → Hand H' hd c → Q (.ref hd) H'
theorem ok__law_hand (T : Txt K mg a) : FnOk P w K mg base CX0 1 a.f__law_hand a.d__law_hand P__law_hand (sp__law_hand K) := by
  refine T.F__law_hand.ok sc__law_hand (fun vs H Q E h => by obtain ⟨s, ns, rfl, _⟩ := h; rfl) (fun cdv A outer s0 H vs Q E hr h => ?_)
  obtain ⟨s, ns, rfl, hs, hl, k⟩ := h
  refine ⟨_, (pss_cons (ps_setLc (i := 1) (own := [("_law_cell", 2)]) (g := (gName 2)) (tt := tYes)  rfl sc__law_hand.nd rfl rfl (sw_true rfl rfl rfl (by decide +kernel)) (pi_list (pe_slice sl_list (pv 0) po_none (po_some pe_int))) (blkOk_by (N := N__law_hand) (sc := defScope s__law_hand) (by decide +kernel)) (fun _ _ _ _ _ => (pg_name (i := 2) sc__law_hand.nd rfl (by first | exact Or.inl rfl | exact Or.inr rfl))) (fun _ _ _ _ _ => pts_nil) (fun _ _ _ _ _ => (pe_callB call_abs (by rfl) T.n_abs (by decide +kernel) (pa_cons (pe_callTy call_int1 (by rfl) T.n_int (by decide +kernel) (pa_cons (pv 2) pa_nil)) pa_nil))))
  (pss_one (ps_ret (pe_lstN (pa_cons (pv 1) (pa_cons pe_int (pa_cons pe_int (pa_cons (pe_op op_add pe_int (pe_callB call_len_seq (by rfl) T.n_len (by decide +kernel) (pa_cons (pv 1) pa_nil))) (pa_cons pe_int pa_nil))))))))), ?_⟩
  walk_at "ws"
  refine ⟨s, _, rfl, hs, fun p hp => ?_⟩
  obtain ⟨ms, hms⟩ : ∃ ms : List Int, cutV (ns.map V.int) none (some 63) = ms.map V.int := ints_of fun v hv => by
    obtain ⟨n, _, e⟩ := List.mem_map.mp (mem_cutV hv)
    exact ⟨n, e.symm⟩
  have hz : ms.length ≤ 63 := by
    have e := cutV_length (ns.map V.int) none (some 63)
    rw [hms, List.length_map, List.length_map] at e
    omega
  rw [hms]
  have g1 : G none H (upd H p (.lst (ms.map V.int))) := G.alloc hp
  have h1 : upd H p (.lst (ms.map V.int)) p = some (.lst (ms.map V.int)) := upd_same
  generalize upd H p (.lst (ms.map V.int)) = H1 at g1 h1 ⊢
  walk_at "ws"
  refine i_list (SqL.of h1) ?_
  intro D hD
  refine lc_pure (K := K) (o := none) walk_list (by rw [List.length_map]; omega) hD (fun _ e => nomatch e) (fun i => ms[i]?.map fun n => .int (if n < 0 then -n else n)) (fun H' g => SqL.of (g.all _ _ h1)) ?_ ?_
  · rintro i x H2 H3 hi g ⟨rfl, hx1⟩ Qy Qn ky kn
    obtain ⟨n, hn, rfl⟩ : ∃ n, ms[i]? = some n ∧ V.int n = x := by
      rw [List.getElem?_map] at hx1; exact Option.map_eq_some_iff.mp hx1
    walk_at "ws"
    refine ⟨rfl, ?_⟩
    walk_at "ws"
    refine .inl ⟨_, rfl, ?_⟩
    walk_at "ws"
    exact ⟨_, rfl, ky _ _ _ G.refl (.int _) rfl (by rw [hn]; rfl)⟩
  · intro xs H' g hD' hds _
    rw [List.length_map, filterMap_range_map] at hds
    obtain ⟨cs, rfl⟩ : ∃ cs : List Int, xs = cs.map V.int := ⟨_, DpAll.of_ints (ns := ms.map fun n => if n < 0 then -n else n) (by rw [List.map_map]; exact hds)⟩
    have g2 := g1.trans g
    walk_at "ws"
    refine ⟨D, _, rfl, .inl (SqL.of hD'), ?_⟩
    walk_at "ws"
    refine ⟨sz (by simp), fun q H3 hq g3 h3 => ?_⟩
    exact k q D _ (g2.trans (g3 none)) ⟨ne_of_none hD' hq, ⟨cs, (g3 none).all _ _ hD'⟩, _, _, _, _, h3, Int.le_refl _⟩

def sp__law_draw : Sp := fun vs H Q _ => ∃ (hd c : Addr) (n : Int), vs = [.ref hd, .int n] ∧ Hand H hd c ∧ 0 < n ∧ n ≤ 100000 ∧ ∀ r H', 0 ≤ r → r < n → G (some (hd, c)) H H' → Hand H' hd c → Q (.int r) H'
theorem st5 {x0 x1 x2 x3 x4 v : V} {j : Nat} {hd : Addr} {z : Int} {H : Hp} {F : Hp → Prop} (h : H hd = some (.lst [x0, x1, x2, x3, x4])) (e : ixN 5 z = some j) (q : F (upd H hd (.lst (([x0, x1, x2, x3, x4] : List V).set j v)))) : rSetL (.ref hd) (.int z) v H F := ⟨hd, _, z, j, rfl, rfl, h, e, q⟩
theorem ok__law_draw (T : Txt K mg a) : FnOk P w K mg base CX0 1 a.f__law_draw a.d__law_draw P__law_draw sp__law_draw := by
  refine T.F__law_draw.ok sc__law_draw (fun vs H Q E h => by obtain ⟨hd, c, n, rfl, _⟩ := h; rfl) (fun cdv A outer s0 H vs Q E hr h => ?_)
  obtain ⟨hd, c, n, rfl, hh, n0, n1, k⟩ := h
  have hh' := hh
  obtain ⟨nc, ⟨ns, hc⟩, i, b, m, z, h, hi⟩ := hh'
  refine ⟨_, (pss_cons (ps_if (L2.PW.pt (pw_and (pt_cmpR op_eq (pe_ix ix_list (pv 0) pe_int (fun _ _ => rfl)) pe_int (nomark _)) (pw_and1 (pt_cmpR op_lt (pe_ix ix_list (pv 0) pe_int (fun _ _ => rfl)) (pe_callB call_len_seq (by rfl) T.n_len (by decide +kernel) (pa_cons (pe_ix ix_list (pv 0) pe_int (fun _ _ => rfl)) pa_nil)) (nomark _)))))
    (pss_cons (ps_set (i := 2) sc__law_draw.nd rfl (Or.inl rfl) (pe_ix ix_list (pe_ix ix_list (pv 0) pe_int (fun _ _ => rfl)) (pe_ix ix_list (pv 0) pe_int (fun _ _ => rfl)) (fun _ _ => rfl)))
  (pss_cons (ps_asg (pe_op op_add (pe_ix ix_list (pv 0) pe_int (fun _ _ => rfl)) pe_int) (pg_sub (pv 0) pe_int set_list))
  (pss_cons (ps_asg (pe_op op_mod (pe_callTy call_int1 (by rfl) T.n_int (by decide +kernel) (pa_cons (pe_op op_add (pe_op op_add (pe_op op_mul (pe_ix ix_list (pv 0) pe_int (fun _ _ => rfl)) pe_int) (pv 2)) pe_int) pa_nil)) pe_int) (pg_sub (pv 0) pe_int set_list))
  (pss_one (ps_if (pt_cmpR op_ge (pv 2) (pe_op op_pow pe_int pe_int) (nomark _))
    (pss_one (ps_asg (pv 2) (pg_sub (pv 0) pe_int set_list)))
    pss_nil)))))
    pss_nil)
  (pss_cons (ps_if (pt_cmpR op_gt (pe_ix ix_list (pv 0) pe_int (fun _ _ => rfl)) pe_int (nomark _))
    (pss_cons (ps_set (i := 3) sc__law_draw.nd rfl (Or.inl rfl) (pe_op op_mod (pe_callTy call_int1 (by rfl) T.n_int (by decide +kernel) (pa_cons (pe_ix ix_list (pv 0) pe_int (fun _ _ => rfl)) pa_nil)) (pv 1)))
  (pss_cons (ps_asg (pe_op op_fdiv (pe_ix ix_list (pv 0) pe_int (fun _ _ => rfl)) (pv 1)) (pg_sub (pv 0) pe_int set_list))
  (pss_one (ps_ret (pv 3)))))
    pss_nil)
  (pss_cons (ps_asg (pe_op op_add (pe_ix ix_list (pv 0) pe_int (fun _ _ => rfl)) pe_int) (pg_sub (pv 0) pe_int set_list))
  (pss_cons (ps_set (i := 4) sc__law_draw.nd rfl (Or.inl rfl) (pe_op op_mod (pe_callTy call_int1 (by rfl) T.n_int (by decide +kernel) (pa_cons (pe_op op_mul (pe_callTy call_int1 (by rfl) T.n_int (by decide +kernel) (pa_cons (pe_op op_add (pe_ix ix_list (pv 0) pe_int (fun _ _ => rfl)) (pe_op op_mul pe_int (pe_ix ix_list (pv 0) pe_int (fun _ _ => rfl)))) pa_nil)) pe_int) pa_nil)) pe_int))
  (pss_cons (ps_set (i := 4) sc__law_draw.nd rfl (Or.inl rfl) (pe_op op_mod (pe_callTy call_int1 (by rfl) T.n_int (by decide +kernel) (pa_cons (pe_op op_mul (pv 4) (pe_op op_add (pe_op op_fdiv (pv 4) pe_int) pe_int)) pa_nil)) pe_int))
  (pss_cons (ps_set (i := 4) sc__law_draw.nd rfl (Or.inl rfl) (pe_op op_mod (pe_callTy call_int1 (by rfl) T.n_int (by decide +kernel) (pa_cons (pe_op op_mul (pv 4) (pe_op op_add (pe_op op_fdiv (pv 4) pe_int) pe_int)) pa_nil)) pe_int))
  (pss_one (ps_ret (pe_op op_mod (pe_callTy call_int1 (by rfl) T.n_int (by decide +kernel) (pa_cons (pe_op op_fdiv (pv 4) pe_int) pa_nil)) (pv 1)))))))))), ?_⟩
  refine w_seqM (fun σ H1 => ∃ (i b m z : Int) (x : Option V), σ = [some (.ref hd), some (.int n), x, none, none] ∧ (∀ a, a ≠ hd → H1 a = H a) ∧ H1 hd = some (.lst [.ref c, .int i, .int b, .int m, .int z]) ∧ 0 ≤ i) (fun N kN => ?_) ?_
  · walk_at "ws"
    refine r_ixL (SqL.of h) (v := .int b) rfl ?_
    walk_at "ws"
    refine w_ite (fun e => ?_) (fun e => ?_)
    · walk_at "ws"
      refine r_ixL (SqL.of h) (v := .int i) rfl ?_
      walk_at "ws"
      refine r_ixL (SqL.of h) (v := .ref c) rfl ?_
      walk_at "ws"
      refine ⟨c, _, rfl, .inl (SqL.of hc), ?_⟩
      walk_at "ws"
      refine w_ite (fun e => ?_) (fun e => ?_)
      · have hlt : i < ns.length := by
          have := of_decide_eq_true e
          rw [List.length_map] at this
          exact this
        obtain ⟨cell, hcell⟩ : ∃ cell, ns[i.toNat]? = some cell := ⟨_, List.getElem?_eq_getElem (by omega)⟩
        walk_at "ws"
        refine r_ixL (SqL.of h) (v := .ref c) rfl ?_
        walk_at "ws"
        refine r_ixL (SqL.of h) (v := .int i) rfl ?_
        refine r_ixL (SqL.of hc) (v := .int cell) (at_of (j := i.toNat) (by omega) (by rw [List.getElem?_map, hcell]; rfl)) ?_
        walk_at "ws"
        refine r_ixL (SqL.of h) (v := .int i) rfl ?_
        walk_at "ws"
        refine st5 (j := 1) h rfl ?_
        walk_at "ws"
        refine r_ixL (SqL.of upd_same) (v := .int m) rfl ?_
        walk_at "ws"
        refine r_I (.inr ⟨by decide, by decide⟩) ?_
        walk_at "ws"
        refine .inl ⟨_, rfl, ?_⟩
        walk_at "ws"
        refine r_I (by decide) ?_
        walk_at "ws"
        refine st5 (j := 3) upd_same rfl ?_
        walk_at "ws"
        refine r_I ⟨by decide, by decide, by decide⟩ ?_
        walk_at "ws"
        refine w_ite (fun e => ?_) (fun e => ?_)
        · walk_at "ws"
          refine st5 (j := 2) upd_same rfl ?_
          refine kN _ _ ⟨_, _, _, _, _, rfl, fun a na => ?_, upd_same, by omega⟩
          rw [upd_ne na, upd_ne na, upd_ne na]
        · walk_at "ws"
          refine kN _ _ ⟨_, _, _, _, _, rfl, fun a na => ?_, upd_same, by omega⟩
          rw [upd_ne na, upd_ne na]
      · walk_at "ws"
        exact kN _ _ ⟨i, b, m, z, none, rfl, fun _ _ => rfl, h, hi⟩
    · walk_at "ws"
      exact kN _ _ ⟨i, b, m, z, none, rfl, fun _ _ => rfl, h, hi⟩
  · clear h hi
    rintro σ H1 ⟨i, b, m, z, x, rfl, hE, h, hi⟩
    walk_at "ws"
    refine r_ixL (SqL.of h) (v := .int b) rfl ?_
    walk_at "ws"
    refine w_ite (fun e => ?_) (fun e => ?_)
    · walk_at "ws"
      refine r_ixL (SqL.of h) (v := .int b) rfl ?_
      walk_at "ws"
      refine .inl ⟨_, rfl, ?_⟩
      walk_at "ws"
      refine r_I n0 ?_
      walk_at "ws"
      refine r_ixL (SqL.of h) (v := .int b) rfl ?_
      walk_at "ws"
      refine r_I ⟨n0, by omega⟩ ?_
      walk_at "ws"
      refine st5 (j := 2) h rfl ?_
      walk_at "ws"
      obtain ⟨g, hh2⟩ := G.at_hd hh (H' := upd H1 hd (.lst (([.ref c, .int i, .int b, .int m, .int z] : List V).set 2 (.int (b / n))))) (fun a na => by rw [upd_ne na]; exact hE a na) upd_same hi
      exact k _ _ (Int.emod_nonneg _ (by omega)) (Int.emod_lt_of_pos _ n0) g hh2
    · walk_at "ws"
      refine r_ixL (SqL.of h) (v := .int z) rfl ?_
      walk_at "ws"
      refine st5 (j := 4) h rfl ?_
      walk_at "ws"
      refine r_ixL (SqL.of upd_same) (v := .int m) rfl ?_
      walk_at "ws"
      refine r_ixL (SqL.of upd_same) (v := .int (z + 1)) rfl ?_
      refine r_I (.inl ⟨by decide, by decide⟩) ?_
      walk_at "ws"
      refine .inl ⟨_, rfl, ?_⟩
      walk_at "ws"
      refine r_I (.inr ⟨by decide, by decide⟩) ?_
      walk_at "ws"
      refine .inl ⟨_, rfl, ?_⟩
      walk_at "ws"
      refine r_I (by decide) ?_
      generalize e1 : (_ : Int) % 2147483647 = u1
      have b1 : 0 ≤ u1 ∧ u1 < 2147483647 := by omega
      walk_at "ws"
      refine r_I ⟨by decide, by decide⟩ ?_
      walk_at "ws"
      refine r_I (.inl ⟨by omega, by omega⟩) ?_
      walk_at "ws"
      refine .inl ⟨_, rfl, ?_⟩
      walk_at "ws"
      refine r_I (by decide) ?_
      generalize e2 : (_ : Int) % 2147483647 = u2
      have b2 : 0 ≤ u2 ∧ u2 < 2147483647 := by omega
      walk_at "ws"
      refine r_I ⟨by decide, by decide⟩ ?_
      walk_at "ws"
      refine r_I (.inl ⟨by omega, by omega⟩) ?_
      walk_at "ws"
      refine .inl ⟨_, rfl, ?_⟩
      walk_at "ws"
      refine r_I (by decide) ?_
      walk_at "ws"
      refine r_I ⟨by decide, by decide⟩ ?_
      walk_at "ws"
      refine .inl ⟨_, rfl, ?_⟩
      walk_at "ws"
      refine r_I n0 ?_
      obtain ⟨g, hh2⟩ := G.at_hd hh (H' := upd H1 hd (.lst (([.ref c, .int i, .int b, .int m, .int z] : List V).set 4 (.int (z + 1))))) (fun a na => by rw [upd_ne na]; exact hE a na) upd_same hi
      exact k _ _ (Int.emod_nonneg _ (by omega)) (Int.emod_lt_of_pos _ n0) g hh2

end
end Mine
/-! ## K7 -/


namespace Mine
section
variable {P : Program} {w : World} {K : PySem.W.Frag} {mg : Str → Option Value} {base : Heap} {a : Ads}

/-! ### _law_is of two that are alike -/
theorem dp_n {H H' : Hp} (g : G none H H') : (∀ (d : PyData) (v : V), Dp K H v d → Dp K H' v d) ∧ (∀ (ds : List PyData) (vs : List V), DpAll K H vs ds → DpAll K H' vs ds) := by
  have rd : ∀ {a u}, Rd H a u → Rd H' a u := fun h => h.elim (fun h => .inl (g.all _ _ h)) fun ⟨ob, h⟩ => .inr ⟨ob, g.all _ _ h⟩
  have sl : ∀ {a xs}, SqL K H a xs → SqL K H' a xs := fun h => h.elim (fun h => .inl (rd h)) .inr
  constructor
  · intro d v h
    refine Dp.rec (motive_1 := fun v d _ => Dp K H' v d) (motive_2 := fun vs ds _ => DpAll K H' vs ds) .non .bl .int .str ?_ ?_ ?_ ?_ h
    · intro a xs ds h1 _ h2; exact .lst (sl h1) h2
    · intro a xs ds h1 _ h2; exact .tup (sqT_t g.tups h1) h2
    · exact .nil
    · intro v vs d ds _ _ h1 h2; exact .cons h1 h2
  · intro ds vs h
    refine DpAll.rec (motive_1 := fun v d _ => Dp K H' v d) (motive_2 := fun vs ds _ => DpAll K H' vs ds) .non .bl .int .str ?_ ?_ ?_ ?_ h
    · intro a xs ds h1 _ h2; exact .lst (sl h1) h2
    · intro a xs ds h1 _ h2; exact .tup (sqT_t g.tups h1) h2
    · exact .nil
    · intro v vs d ds _ _ h1 h2; exact .cons h1 h2
theorem sqL_n {H H' : Hp} (g : G none H H') {p : Addr} {xs : List V} (h : SqL K H p xs) : SqL K H' p xs := by
  rcases h with (h | ⟨o, h⟩) | h
  · exact .inl (.inl (g.all _ _ h))
  · exact .inl (.inr ⟨o, g.all _ _ h⟩)
  · exact .inr h
theorem tyx_lst {H : Hp} {p : Addr} {xs : List V} (h : SqL K H p xs) : TyX K H (.ref p) (.type "list") := by
  rcases h with (h | ⟨o, h⟩) | ⟨o, its, n, h1, h2, _⟩
  · exact .base (.lst h)
  · exact .base (.frz h)
  · exact .kList h1 h2
def tyN : PyData → String
  | .none => "NoneType"
  | .bool _ => "bool"
  | .int _ => "int"
  | .str _ => "str"
  | .list _ => "list"
  | .tuple _ => "tuple"
  | .dict _ => "dict"
theorem ty_of {H : Hp} {v : V} {d : PyData} (h : Dp K H v d) : TyX K H v (.type (tyN d)) := by
  cases h with
  | non => exact .base .non
  | bl b => exact .base (.bl b)
  | int i => exact .base (.int i)
  | str x => exact .base (.str x)
  | lst h _ => exact tyx_lst h
  | tup h _ => exact tyx_tup h
def isTup : PyData → Bool | .tuple _ => true | _ => false
def isLst : PyData → Bool | .list _ => true | _ => false
def isBool : PyData → Bool | .bool _ => true | _ => false
theorem ki_tup (d : PyData) : PySem.W.kitOne K (.type (tyN d)) (.type "tuple") = some (isTup d) := by
  cases d with
  | none => exact kit_ty (a := "NoneType") (b := "tuple") (r := false) (by decide +kernel)
  | bool _ => exact kit_ty (a := "bool") (b := "tuple") (r := false) (by decide +kernel)
  | int _ => exact kit_ty (a := "int") (b := "tuple") (r := false) (by decide +kernel)
  | str _ => exact kit_ty (a := "str") (b := "tuple") (r := false) (by decide +kernel)
  | list _ => exact kit_ty (a := "list") (b := "tuple") (r := false) (by decide +kernel)
  | tuple _ => exact kit_ty (a := "tuple") (b := "tuple") (r := true) (by decide +kernel)
  | dict _ => exact kit_ty (a := "dict") (b := "tuple") (r := false) (by decide +kernel)
theorem ki_lst (d : PyData) : PySem.W.kitOne K (.type (tyN d)) (.type "list") = some (isLst d) := by
  cases d with
  | none => exact kit_ty (a := "NoneType") (b := "list") (r := false) (by decide +kernel)
  | bool _ => exact kit_ty (a := "bool") (b := "list") (r := false) (by decide +kernel)
  | int _ => exact kit_ty (a := "int") (b := "list") (r := false) (by decide +kernel)
  | str _ => exact kit_ty (a := "str") (b := "list") (r := false) (by decide +kernel)
  | list _ => exact kit_ty (a := "list") (b := "list") (r := true) (by decide +kernel)
  | tuple _ => exact kit_ty (a := "tuple") (b := "list") (r := false) (by decide +kernel)
  | dict _ => exact kit_ty (a := "dict") (b := "list") (r := false) (by decide +kernel)
theorem ki_bool (d : PyData) : PySem.W.kitOne K (.type (tyN d)) (.type "bool") = some (isBool d) := by
  cases d with
  | none => exact kit_ty (a := "NoneType") (b := "bool") (r := false) (by decide +kernel)
  | bool _ => exact kit_ty (a := "bool") (b := "bool") (r := true) (by decide +kernel)
  | int _ => exact kit_ty (a := "int") (b := "bool") (r := false) (by decide +kernel)
  | str _ => exact kit_ty (a := "str") (b := "bool") (r := false) (by decide +kernel)
  | list _ => exact kit_ty (a := "list") (b := "bool") (r := false) (by decide +kernel)
  | tuple _ => exact kit_ty (a := "tuple") (b := "bool") (r := false) (by decide +kernel)
  | dict _ => exact kit_ty (a := "dict") (b := "bool") (r := false) (by decide +kernel)
theorem ki_tl (d : PyData) : PySem.W.kitAny K (.type (tyN d)) [.type "tuple", .type "list"] = some (isTup d || isLst d) := by
  refine kitAny_cons (ki_tup d) (fun e => ?_) fun e => by rw [e]; rfl
  refine kitAny_cons (ki_lst d) (fun e2 => ?_) fun e2 => by rw [e, e2]; rfl
  rw [e, e2]; rfl
theorem r_isiT {H : Hp} {v : V} {d : PyData} {tp : Addr} {Q : VK} (h : H tp = some (.tup [.ty "tuple", .ty "list"])) (hd : Dp K H v d) (q : Q (.bl (isTup d || isLst d)) H) : rIsiT K [v, .ref tp] H Q :=
  ⟨v, tp, [.ty "tuple", .ty "list"], _, [.type "tuple", .type "list"], _, rfl, h, .cons (.ty "tuple") (.cons (.ty "list") .nil), ty_of hd, ki_tl d, q⟩
def scal1 : PyData → Prop
  | .none => True
  | .bool _ => True
  | .int _ => True
  | .str x => PyData.strOk x = true
  | _ => False
def okd : Nat → PyData → Prop
  | 0, d => scal1 d
  | n + 1, d => scal1 d ∨ ∃ ds, (d = .tuple ds ∨ d = .list ds) ∧ ds.length ≤ 100000 ∧ ∀ e ∈ ds, okd n e
theorem scal1_tl {d : PyData} (h : scal1 d) : (isTup d || isLst d) = false := by cases d <;> first | rfl | exact h.elim
theorem scal1_eqv {d : PyData} (h : scal1 d) : PyData.eqv d d = true := by
  cases d with
  | none => rfl
  | bool b => cases b <;> rfl
  | int i => simp [PyData.eqv]
  | str x => simp [PyData.eqv]
  | list _ => exact h.elim
  | tuple _ => exact h.elim
  | dict _ => exact h.elim
theorem scal1_sh {d : PyData} (h : scal1 d) : SeqAt.shaped d = true := by
  cases d <;> first | exact h.elim | (simp [SeqAt.shaped, PyData.canLay0, PyData.depth]; done) | (simp [SeqAt.shaped, PyData.canLay0, PyData.depth]; exact h)
theorem walk_zipT {p q : Addr} {xs ys : List V} {n : Nat} (hn : n = min xs.length ys.length) : Walk (RZ.ItzT K p q) n (fun H => SqT K H p xs ∧ SqT K H q ys) (YPair (fun i => xs[i]?) (fun i => ys[i]?)) := by
  subst hn
  refine ⟨fun i _ hi h => ?_, fun _ h => ⟨xs, ys, h.1, h.2, by omega⟩, fun i H v H' _ h y => ?_⟩
  · have h1 : i < xs.length := by omega
    have h2 : i < ys.length := by omega
    exact ⟨xs, ys, xs[i], ys[i], h.1, h.2, by simp [h1], by simp [h2]⟩
  · obtain ⟨T, x, z, h1, h2, h3, h4, h5⟩ := y
    exact ⟨T, x, z, h1, h2, h3, h4 xs h.1, h5 ys h.2⟩
theorem bools_true {H : Hp} {xs : List V} {n : Nat} (h : DpAll K H xs ((List.range n).filterMap fun _ => some (PyData.bool true))) : ∃ bs : List Bool, xs = bs.map V.bl ∧ bs.all id = true := by
  generalize List.range n = l at h
  induction l generalizing xs with
  | nil => cases h; exact ⟨[], rfl, rfl⟩
  | cons z l ih =>
    cases h with
    | cons h t =>
      obtain ⟨bs, rfl, e⟩ := ih t
      cases h
      exact ⟨true :: bs, rfl, by simpa using e⟩
def sp__law_is (K : PySem.W.Frag) (n : Nat) : Sp := fun vs H Q _ => ∃ (v u : V) (d : PyData), vs = [v, u] ∧ okd n d ∧ Dp K H v d ∧ Dp K H u d ∧ ∀ H', G none H H' → Q (.bl true) H'
theorem ok__law_is (T : Txt K mg a) : ∀ n : Nat, FnOk P w K mg base CX0 (n + 1) a.f__law_is a.d__law_is P__law_is (sp__law_is K n)
  | 0 => by
    refine T.F__law_is.ok sc__law_is (fun vs H Q E h => by obtain ⟨v, u, d, rfl, _⟩ := h; rfl) (fun cdv A outer s H vs Q E hr h => ?_)
    obtain ⟨v, u, d, rfl, od, hv, hu, k⟩ := h
    have od : scal1 d := od
    refine ⟨_, (pss_cons (ps_if (pt_val (pe_callB call_isiT (by rfl) T.n_isinstance (by decide +kernel) (pa_cons (pv 1) (pa_cons (pe_tupN (pa_cons (pe_bltn (v := .ty "tuple") (u := .type "tuple") rfl T.n_tuple (by decide +kernel) rfl) (pa_cons (pe_bltn (v := .ty "list") (u := .type "list") rfl T.n_list (by decide +kernel) rfl) pa_nil))) pa_nil)))) pss_never pss_nil) (pss_one (ps_ret (pe_and (pe_cmpR op_eq (pe_callB call_isi (by rfl) T.n_isinstance (by decide +kernel) (pa_cons (pv 0) (pa_cons (pe_bltn (v := .ty "bool") (u := .type "bool") rfl T.n_bool (by decide +kernel) rfl) pa_nil))) (pe_callB call_isi (by rfl) T.n_isinstance (by decide +kernel) (pa_cons (pv 1) (pa_cons (pe_bltn (v := .ty "bool") (u := .type "bool") rfl T.n_bool (by decide +kernel) rfl) pa_nil))) (nomark _)) (pe_one (pe_cmpR (op_eqD hr.units) (pv 0) (pv 1) (nomark _))))))), ?_⟩
    walk_at "ws"
    refine ⟨sz (by simp), fun p H1 hp g1 h1 => ?_⟩
    have g1 := g1 none
    walk_at "ws"
    refine r_isiT h1 ((dp_n g1).1 _ _ hu) ?_
    rw [scal1_tl od]
    walk_at "ws"
    refine r_isi (ty_of ((dp_n g1).1 _ _ hv)) (ki_bool d) ?_
    walk_at "ws"
    refine r_isi (ty_of ((dp_n g1).1 _ _ hu)) (ki_bool d) ?_
    walk_at "ws"
    refine w_iteE (by simp) ?_
    walk_at "ws"
    refine ⟨d, d, (dp_n g1).1 _ _ hv, (dp_n g1).1 _ _ hu, scal1_sh od, scal1_sh od, ?_⟩
    rw [scal1_eqv od]
    exact k _ g1
  | n + 1 => by
    have ih : FnOk P w K mg base CX0 (n + 1) a.f__law_is a.d__law_is P__law_is (sp__law_is K n) := ok__law_is T n
    refine T.F__law_is.ok sc__law_is (fun vs H Q E h => by obtain ⟨v, u, d, rfl, _⟩ := h; rfl) (fun cdv A outer s H vs Q E hr h => ?_)
    obtain ⟨v, u, d, rfl, od, hv, hu, k⟩ := h
    refine ⟨_, (pss_cons (ps_if (pt_val (pe_callB call_isiT (by rfl) T.n_isinstance (by decide +kernel) (pa_cons (pv 1) (pa_cons (pe_tupN (pa_cons (pe_bltn (v := .ty "tuple") (u := .type "tuple") rfl T.n_tuple (by decide +kernel) rfl) (pa_cons (pe_bltn (v := .ty "list") (u := .type "list") rfl T.n_list (by decide +kernel) rfl) pa_nil))) pa_nil))))
    (pss_cons (ps_if (L2.PW.pt (pw_or (pt_cmpR op_ne (pe_callB call_isi (by rfl) T.n_isinstance (by decide +kernel) (pa_cons (pv 0) (pa_cons (pe_bltn (v := .ty "tuple") (u := .type "tuple") rfl T.n_tuple (by decide +kernel) rfl) pa_nil))) (pe_callB call_isi (by rfl) T.n_isinstance (by decide +kernel) (pa_cons (pv 1) (pa_cons (pe_bltn (v := .ty "tuple") (u := .type "tuple") rfl T.n_tuple (by decide +kernel) rfl) pa_nil))) (nomark _)) (pw_or1 (pt_not (pt_val (pe_callB call_isiT (by rfl) T.n_isinstance (by decide +kernel) (pa_cons (pv 0) (pa_cons (pe_tupN (pa_cons (pe_bltn (v := .ty "tuple") (u := .type "tuple") rfl T.n_tuple (by decide +kernel) rfl) (pa_cons (pe_bltn (v := .ty "list") (u := .type "list") rfl T.n_list (by decide +kernel) rfl) pa_nil))) pa_nil))))))))
    (pss_one (ps_ret pe_bl))
    pss_nil)
  (pss_one (ps_ret (pe_and (pe_cmpR op_eq (pe_callB call_len_seq (by rfl) T.n_len (by decide +kernel) (pa_cons (pv 0) pa_nil)) (pe_callB call_len_seq (by rfl) T.n_len (by decide +kernel) (pa_cons (pv 1) pa_nil)) (nomark _)) (pe_one (pe_callB (cr_all rfl) (by rfl) T.n_all (by decide +kernel) (pa_cons (pe_lc (own := [("_law_one", 2), ("_law_two", 3)]) (g := (gTup K 2 (gCons (gName 2) (gCons (gName 3) gNil)))) (tt := tYes) rfl sc__law_is.nd (RZ.pi_zipA (by rfl) T.n_zip (pa_cons (pv 0) (pa_cons (pv 1) pa_nil))) (blkOk_by (N := N__law_is) (sc := defScope s__law_is) (by decide +kernel)) (fun _ _ _ _ _ => (pg_tup rfl (pgs_cons (pg_name (i := 2) sc__law_is.nd rfl (by first | exact Or.inl rfl | exact Or.inr rfl)) (pgs_cons (pg_name (i := 3) sc__law_is.nd rfl (by first | exact Or.inl rfl | exact Or.inr rfl)) pgs_nil)))) (fun _ _ _ _ _ => pts_nil) (fun _ _ _ _ _ => (pe_call ih (hr.mono (by omega)) rfl T.m__law_is T.F__law_is.kp T.b__law_is .nil pass0 (pa_cons (pv 2) (pa_cons (pv 3) pa_nil))))) pa_nil)))))))
    pss_nil)
  (pss_one (ps_ret (pe_and (pe_cmpR op_eq (pe_callB call_isi (by rfl) T.n_isinstance (by decide +kernel) (pa_cons (pv 0) (pa_cons (pe_bltn (v := .ty "bool") (u := .type "bool") rfl T.n_bool (by decide +kernel) rfl) pa_nil))) (pe_callB call_isi (by rfl) T.n_isinstance (by decide +kernel) (pa_cons (pv 1) (pa_cons (pe_bltn (v := .ty "bool") (u := .type "bool") rfl T.n_bool (by decide +kernel) rfl) pa_nil))) (nomark _)) (pe_one (pe_cmpR (op_eqD hr.units) (pv 0) (pv 1) (nomark _))))))), ?_⟩
    walk_at "ws"
    refine ⟨sz (by simp), fun p H1 hp g1 h1 => ?_⟩
    have g1 := g1 none
    walk_at "ws"
    refine r_isiT h1 ((dp_n g1).1 _ _ hu) ?_
    rcases od with od | ⟨ds, od, hz, hds⟩
    · rw [scal1_tl od]
      walk_at "ws"
      refine r_isi (ty_of ((dp_n g1).1 _ _ hv)) (ki_bool d) ?_
      walk_at "ws"
      refine r_isi (ty_of ((dp_n g1).1 _ _ hu)) (ki_bool d) ?_
      walk_at "ws"
      refine w_iteE (by simp) ?_
      walk_at "ws"
      refine ⟨d, d, (dp_n g1).1 _ _ hv, (dp_n g1).1 _ _ hu, scal1_sh od, scal1_sh od, ?_⟩
      rw [scal1_eqv od]
      exact k _ g1
    · have e1 : (isTup d || isLst d) = true := by rcases od with rfl | rfl <;> rfl
      rw [e1]
      have hv1 := (dp_n g1).1 _ _ hv
      have hu1 := (dp_n g1).1 _ _ hu
      walk_at "ws"
      refine r_isi (ty_of hv1) (ki_tup d) ?_
      walk_at "ws"
      refine r_isi (ty_of hu1) (ki_tup d) ?_
      walk_at "ws"
      refine w_iteN (by simp) ?_
      walk_at "ws"
      refine ⟨sz (by simp), fun p2 H2 hp2 g2 h2 => ?_⟩
      have g2 := g2 none
      have hv2 := (dp_n g2).1 _ _ hv1
      have hu2 := (dp_n g2).1 _ _ hu1
      have g12 := g1.trans g2
      walk_at "ws"
      refine r_isiT h2 hv2 ?_
      rw [e1]
      walk_at "ws"
      -- the turn of one pair
      have turn : ∀ (i : Nat) (xs ys : List V) (H3 H4 : Hp) (x : V) (Qy : V → Hp → Prop) (Qn : Hp → Prop), DpAll K H2 xs ds → DpAll K H2 ys ds → G none H2 H3 → YPair (fun i => xs[i]?) (fun i => ys[i]?) i H3 x H4 →
          (∀ y H5 e, G none H3 H5 → Dp K H5 y e → nl e = true → some (PyData.bool true) = some e → Qy y H5) →
          ∃ (t : Addr) (y z : V) (e : PyData), x = .ref t ∧ H4 t = some (.tup [y, z]) ∧ e ∈ ds ∧ Dp K H4 y e ∧ Dp K H4 z e ∧ G none H3 H4 := by
        intro i xs ys H3 H4 x Qy Qn hx hy g3 hY ky
        obtain ⟨t, y, z, rfl, ht, rfl, ey, ez⟩ := hY
        obtain ⟨e, he, hye⟩ := DpAll.get hx ey
        obtain ⟨e', he', hze⟩ := DpAll.get hy ez
        rw [he] at he'; cases he'
        have g4 : G none H3 (upd H3 t (.tup [y, z])) := G.alloc ht
        exact ⟨t, y, z, e, rfl, upd_same, List.mem_of_getElem? he, (dp_n (g3.trans g4)).1 _ _ hye, (dp_n (g3.trans g4)).1 _ _ hze, g4⟩
      rcases od with rfl | rfl
      · obtain ⟨p3, xs, rfl, hxs, hxd⟩ := dp_tup hv2
        obtain ⟨p4, ys, rfl, hys, hyd⟩ := dp_tup hu2
        walk_at "ws"
        refine ⟨p3, xs, rfl, .inr hxs, ?_⟩
        walk_at "ws"
        refine ⟨p4, ys, rfl, .inr hys, ?_⟩
        walk_at "ws"
        have lx := DpAll.length hxd
        have ly := DpAll.length hyd
        refine w_iteE (by simp [lx, ly]) ?_
        walk_at "ws"
        refine ⟨p3, p4, xs, ys, rfl, .inr ⟨hxs, hys, ?_⟩⟩
        intro D hD
        refine lc_pure (K := K) (o := none) (walk_zipT (xs := xs) (ys := ys) rfl) (by omega) hD (fun _ e => nomatch e) (fun _ => some (PyData.bool true)) (fun H' g => ⟨sqT_t g.tups hxs, sqT_t g.tups hys⟩) ?_ ?_
        · intro i x H3 H4 hi g3 hY Qy Qn ky kn
          obtain ⟨t, y, z, e, rfl, h4, me, hy4, hz4, g4⟩ := turn i xs ys H3 H4 x Qy Qn hxd hyd g3 hY ky
          refine ⟨t, _, rfl, SqT.of h4, rfl, ?_⟩
          refine ⟨_, _, rfl, ?_⟩
          walk_at "ws"
          refine ⟨_, _, rfl, ?_⟩
          walk_at "ws"
          refine ⟨rfl, rfl, ?_⟩
          walk_at "ws"
          exact ⟨y, z, e, rfl, hds e me, hy4, hz4, fun H5 g5 => ky _ _ _ (g4.trans g5) (.bl true) rfl rfl⟩
        · intro xs' H' g hD' hds' _
          obtain ⟨bs, rfl, eb⟩ := bools_true hds'
          walk_at "ws"
          refine ⟨D, bs, rfl, SqL.of hD', ?_⟩
          rw [eb]
          exact k _ (g12.trans g)
      · cases hv2 with
        | lst hxs hxd =>
          cases hu2 with
          | lst hys hyd =>
            rename_i p3 xs p4 ys
            walk_at "ws"
            refine ⟨p3, xs, rfl, .inl hxs, ?_⟩
            walk_at "ws"
            refine ⟨p4, ys, rfl, .inl hys, ?_⟩
            walk_at "ws"
            have lx := DpAll.length hxd
            have ly := DpAll.length hyd
            refine w_iteE (by simp [lx, ly]) ?_
            walk_at "ws"
            refine ⟨p3, p4, xs, ys, rfl, .inl ⟨hxs, hys, ?_⟩⟩
            intro D hD
            refine lc_pure (K := K) (o := none) (walk_zip (xs := xs) (ys := ys) rfl) (by omega) hD (fun _ e => nomatch e) (fun _ => some (PyData.bool true)) (fun H' g => ⟨sqL_n g hxs, sqL_n g hys⟩) ?_ ?_
            · intro i x H3 H4 hi g3 hY Qy Qn ky kn
              obtain ⟨t, y, z, e, rfl, h4, me, hy4, hz4, g4⟩ := turn i xs ys H3 H4 x Qy Qn hxd hyd g3 hY ky
              refine ⟨t, _, rfl, SqT.of h4, rfl, ?_⟩
              refine ⟨_, _, rfl, ?_⟩
              walk_at "ws"
              refine ⟨_, _, rfl, ?_⟩
              walk_at "ws"
              refine ⟨rfl, rfl, ?_⟩
              walk_at "ws"
              exact ⟨y, z, e, rfl, hds e me, hy4, hz4, fun H5 g5 => ky _ _ _ (g4.trans g5) (.bl true) rfl rfl⟩
            · intro xs' H' g hD' hds' _
              obtain ⟨bs, rfl, eb⟩ := bools_true hds'
              walk_at "ws"
              refine ⟨D, bs, rfl, SqL.of hD', ?_⟩
              rw [eb]
              exact k _ (g12.trans g)

def sp__law_flag : Sp := fun vs H Q _ => ∃ (x y : Bool), vs = [.bl x, .bl y] ∧ Q (.bl (decide (x = y))) H
theorem ok__law_flag (T : Txt K mg a) : FnOk P w K mg base CX0 1 a.f__law_flag a.d__law_flag P__law_flag sp__law_flag := by
  refine T.F__law_flag.ok sc__law_flag (fun vs H Q E h => by obtain ⟨x, y, rfl, _⟩ := h; rfl) (fun cdv A outer s H vs Q E hr h => ?_)
  obtain ⟨x, y, rfl, k⟩ := h
  refine ⟨_, (pss_one (ps_ret (pe_and (pe_callB call_isi (by rfl) T.n_isinstance (by decide +kernel) (pa_cons (pv 0) (pa_cons (pe_bltn (v := .ty "bool") (u := .type "bool") rfl T.n_bool (by decide +kernel) rfl) pa_nil))) (pe_one (pe_cmpR op_eq (pv 0) (pv 1) (nomark _)))))), ?_⟩
  walk_at "ws"
  refine r_isi ty_bl ki_bb ?_
  walk_at "ws"
  exact k

end
end Mine
/-! ## K8 -/


namespace Mine
section
variable {P : Program} {w : World} {K : PySem.W.Frag} {mg : Str → Option Value} {base : Heap} {a : Ads}

/-! ### _law_flag, _law_web -/
def okP (m : Int) (u : Int × Int) : Prop := (0 ≤ u.1 ∧ u.1 < m) ∧ (0 ≤ u.2 ∧ u.2 < m) ∧ u.1 ≠ u.2
def ltP (u v : Int × Int) : Prop := u.1 < v.1 ∨ (u.1 = v.1 ∧ u.2 < v.2)
structure IsWeb (m : Int) (ws : List (Int × Int)) : Prop where
  lo : 1 ≤ m
  hi : m ≤ 7
  mem : ∀ u ∈ ws, (0 ≤ u.1 ∧ u.1 < m) ∧ (0 ≤ u.2 ∧ u.2 < m) ∧ u.1 ≠ u.2
  asc : ws.Pairwise ltP
/-- pairs whose tuples are known -/
def TupAll (H : Hp) (bs : List Addr) (ws : List (Int × Int)) : Prop := bs.length = ws.length ∧ ∀ (i : Nat) (b : Addr) (u : Int × Int), bs[i]? = some b → ws[i]? = some u → H b = some (.tup [.int u.1, .int u.2])
theorem TupAll.g {H H' : Hp} {bs : List Addr} {ws : List (Int × Int)} {o : Option (Addr × Addr)} (h : TupAll H bs ws) (g : G o H H') (hh : ∀ q, o = some q → Hand H q.1 q.2) : TupAll H' bs ws := ⟨h.1, fun i b u e1 e2 => by
  have q1 := h.2 i b u e1 e2
  refine g.keep b _ (fun q e => ?_) q1
  obtain ⟨_, _, _, _, _, _, z, _⟩ := hh q e
  exact ne_of q1 z (by intro z; cases z)⟩
theorem TupAll.put {H : Hp} {bs : List Addr} {ws : List (Int × Int)} {l : Addr} {xs : List V} {u : HO} (h : TupAll H bs ws) (hl : H l = some (.lst xs)) : TupAll (upd H l u) bs ws := ⟨h.1, fun i b w e1 e2 => by
  have q1 := h.2 i b w e1 e2
  rw [upd_ne (ne_of q1 hl (by intro z; cases z))]
  exact q1⟩
theorem TupAll.app {H : Hp} {bs : List Addr} {ws : List (Int × Int)} {t : Addr} {u : Int × Int} (h : TupAll H bs ws) (ht : H t = some (.tup [.int u.1, .int u.2])) : TupAll H (bs ++ [t]) (ws ++ [u]) := ⟨by simp [h.1], fun i b w e1 e2 => by
  by_cases c : i < bs.length
  · rw [List.getElem?_append_left c] at e1
    rw [List.getElem?_append_left (by rw [← h.1]; exact c)] at e2
    exact h.2 i b w e1 e2
  · rw [List.getElem?_append_right (by omega)] at e1
    rw [List.getElem?_append_right (by rw [← h.1]; omega), ← h.1] at e2
    cases q : i - bs.length with
    | zero =>
      rw [q] at e1 e2
      simp at e1 e2
      subst e1 e2
      exact ht
    | succ j =>
      rw [q] at e1
      simp at e1⟩
theorem new_back {H0 H1 : Hp} {hd c l : Addr} (g : G (some (hd, c)) H0 H1) (x : Hand H1 hd c) (h : H1 l = none) : H0 l = none := by
  cases e : H0 l with
  | none => rfl
  | some u =>
    have n : l ≠ hd := x.ne h
    rw [g.keep l u (fun p e => by cases e; exact n) e] at h
    cases h
theorem at4 {b0 b1 b2 b3 : Bool} {z : Int} (h0 : 0 ≤ z) (h1 : z ≤ 3) : ∃ b, atI [V.bl b0, V.bl b1, V.bl b2, V.bl b3] z = some (.bl b) := by
  have : z = 0 ∨ z = 1 ∨ z = 2 ∨ z = 3 := by omega
  rcases this with rfl | rfl | rfl | rfl
  · exact ⟨b0, rfl⟩
  · exact ⟨b1, rfl⟩
  · exact ⟨b2, rfl⟩
  · exact ⟨b3, rfl⟩
/-- some wires, all ahead of (y, x) -/
structure Part (m : Int) (ws : List (Int × Int)) (y x : Int) : Prop where
  mem : ∀ u ∈ ws, (0 ≤ u.1 ∧ u.1 < m) ∧ (0 ≤ u.2 ∧ u.2 < m) ∧ u.1 ≠ u.2
  asc : ws.Pairwise ltP
  lt : ∀ u ∈ ws, ltP u (y, x)
theorem Part.up {m y x y' x' : Int} {ws : List (Int × Int)} (h : Part m ws y x) (e : y < y' ∨ (y = y' ∧ x ≤ x')) : Part m ws y' x' := ⟨h.mem, h.asc, fun u hu => by
  have q := h.lt u hu
  simp only [ltP] at q ⊢
  omega⟩
theorem Part.app {m y x : Int} {ws : List (Int × Int)} (h : Part m ws y x) (h1 : 0 ≤ y ∧ y < m) (h2 : 0 ≤ x ∧ x < m) (h3 : y ≠ x) : Part m (ws ++ [(y, x)]) y (x + 1) := by
  refine ⟨fun u hu => ?_, ?_, fun u hu => ?_⟩
  · rcases List.mem_append.mp hu with z | z
    · exact h.mem u z
    · have : u = (y, x) := by simpa using z
      subst this; exact ⟨h1, h2, h3⟩
  · rw [List.pairwise_append]
    refine ⟨h.asc, List.pairwise_singleton _ _, fun u hu v hv => ?_⟩
    have : v = (y, x) := by simpa using hv
    subst this; exact h.lt u hu
  · rcases List.mem_append.mp hu with z | z
    · have q := h.lt u z
      simp only [ltP] at q ⊢
      omega
    · have e : u = (y, x) := by simpa using z
      rw [e]
      exact .inr ⟨rfl, by show x < x + 1; omega⟩
def sp__law_web (K : PySem.W.Frag) : Sp := fun vs H Q _ => ∃ (hd c : Addr) (m : Int), vs = [.ref hd, .int m] ∧ Hand H hd c ∧ 1 ≤ m ∧ m ≤ 7 ∧ ∀ p bs ws H', G (some (hd, c)) H H' → Hand H' hd c → SqT K H' p (bs.map V.ref) → TupAll H' bs ws → IsWeb m ws → Q (.ref p) H'
/-- the loops' word -/
def WebW (K : PySem.W.Frag) (H : Hp) (hd c l : Addr) (m y x : Int) (H' : Hp) : Prop := ∃ (bs : List Addr) (ws : List (Int × Int)), G (some (hd, c)) H H' ∧ Hand H' hd c ∧ H' l = some (.lst (bs.map V.ref)) ∧ TupAll H' bs ws ∧ Part m ws y x ∧ bs.length ≤ 10000
theorem part_len {m y x : Int} {ws : List (Int × Int)} (h : Part m ws y x) (hm : m ≤ 7) : ws.length ≤ 10000 := by
  have hn : (ws.map fun u => (u.1 * 7 + u.2).toNat).Nodup := by
    have : (ws.map fun u => (u.1 * 7 + u.2).toNat).Pairwise (· < ·) := by
      rw [List.pairwise_map]
      refine List.Pairwise.imp_of_mem (fun {u v} hu hv huv => ?_) h.asc
      have h1 := h.mem u hu
      have h2 := h.mem v hv
      unfold ltP at huv
      omega
    exact this.imp fun h => Nat.ne_of_lt h
  have hs : ∀ k ∈ (ws.map fun u => (u.1 * 7 + u.2).toNat), k ∈ List.range 10000 := by
    intro k hk
    obtain ⟨u, hu, rfl⟩ := List.mem_map.mp hk
    have h1 := h.mem u hu
    rw [List.mem_range]
    omega
  have := List.Nodup.length_le_of_subset hn hs
  simpa using this
theorem ok__law_web (T : Txt K mg a) : FnOk P w K mg base CX0 2 a.f__law_web a.d__law_web P__law_web (sp__law_web K) := by
  refine T.F__law_web.ok sc__law_web (fun vs H Q E h => by obtain ⟨hd, c, m, rfl, _⟩ := h; rfl) (fun cdv A outer s H vs Q E hr h => ?_)
  obtain ⟨hd, c, m, rfl, hh, m1, m7, k⟩ := h
  have G__law_draw : FnOk P w K mg base CX0 1 a.f__law_draw a.d__law_draw P__law_draw sp__law_draw := ok__law_draw T
  refine ⟨_, (pss_cons (ps_set (i := 2) sc__law_web.nd rfl (Or.inl rfl) (pe_call (G__law_draw) (hr.mono (by omega)) rfl T.m__law_draw T.F__law_draw.kp T.b__law_draw .nil pass0 (pa_cons (pv 0) (pa_cons pe_int pa_nil))))
  (pss_cons (ps_set (i := 3) sc__law_web.nd rfl (Or.inl rfl) (pe_lstN pa_nil))
  (pss_cons (ps_for PassesOwn.never rfl (pi_range1 rfl T.n_range (pa_cons (pv 1) pa_nil)) (pg_name (i := 4) sc__law_web.nd rfl (Or.inl rfl))
    (pss_one (ps_for PassesOwn.never rfl (pi_range1 rfl T.n_range (pa_cons (pv 1) pa_nil)) (pg_name (i := 5) sc__law_web.nd rfl (Or.inl rfl))
    (pss_cons (ps_set (i := 6) sc__law_web.nd rfl (Or.inl rfl) (pe_ix ix_list (pe_lstN (pa_cons pe_bl (pa_cons (pe_cmpR op_in_seq (pe_callB call_abs (by rfl) T.n_abs (by decide +kernel) (pa_cons (pe_op op_sub (pv 4) (pv 5)) pa_nil)) (pe_lstN (pa_cons pe_int (pa_cons (pe_op op_sub (pv 1) pe_int) pa_nil))) (by rfl)) (pa_cons (pe_cmpR op_eq (pe_callB call_abs (by rfl) T.n_abs (by decide +kernel) (pa_cons (pe_op op_sub (pv 4) (pv 5)) pa_nil)) pe_int (nomark _)) (pa_cons (pe_or (pe_cmpR op_eq (pv 4) pe_int (nomark _)) (pe_one (pe_cmpR op_eq (pv 5) pe_int (nomark _)))) pa_nil))))) (pe_callB (call_min2 rfl) (by rfl) T.n_min (by decide +kernel) (pa_cons (pv 2) (pa_cons pe_int pa_nil))) (fun _ _ => rfl)))
  (pss_cons (ps_if (pt_cmpR op_gt (pv 2) pe_int (nomark _))
    (pss_one (ps_set (i := 6) sc__law_web.nd rfl (Or.inl rfl) (pe_cmpR op_lt (pe_call (G__law_draw) (hr.mono (by omega)) rfl T.m__law_draw T.F__law_draw.kp T.b__law_draw .nil pass0 (pa_cons (pv 0) (pa_cons pe_int pa_nil))) (pe_op op_sub (pv 2) pe_int) (nomark _))))
    pss_nil)
  (pss_one (ps_if (L2.PW.pt (pw_and (pt_cmpR op_ne (pv 4) (pv 5) (nomark _)) (pw_and1 (pt_val (pv 6)))))
    (pss_one (ps_expr (pe_bm PySem.F.plainAttrs_list PySem.F.slot_list_append PySem.F.type_list_append mt_append (pv 3) (pa_cons (pe_tupN (pa_cons (pv 4) (pa_cons (pv 5) pa_nil))) pa_nil))))
    pss_nil)))))))
  (pss_one (ps_ret (pe_callTy call_tupleN (by rfl) T.n_tuple (by decide +kernel) (pa_cons (pv 3) pa_nil))))))), ?_⟩
  walk_at "ws"
  refine ⟨hd, c, 6, rfl, hh, by decide, by decide, fun kind H1 k0 k1 g1 hh1 => ?_⟩
  walk_at "ws"
  refine ⟨sz (by simp), fun l H2 hl g2 h2 => ?_⟩
  have l0 : H l = none := new_back g1 hh1 hl
  have nl : l ≠ hd := hh1.ne hl
  have g2 := g1.trans (g2 _)
  have hh2 := g2.hand _ rfl hh
  have offl : ∀ p, some (hd, c) = some p → l ≠ p.1 := fun p e => by cases e; exact nl
  walk_at "ws"
  refine i_rng1 (by omega) (by omega) ?_
  refine for_it walk_range (fun i σ H' => WebW K H hd c l m i 0 H' ∧ ∃ u v x, σ = [some (.ref hd), some (.int m), some (.int kind), some (.ref l), u, v, x]) ⟨⟨[], [], g2, hh2, h2, ⟨rfl, fun i b u e => by simp at e⟩, ⟨(fun _ h => nomatch h), .nil, (fun _ h => nomatch h)⟩, Nat.zero_le _⟩, _, _, _, rfl⟩ (fun _ _ _ _ _ => trivial) ?_ ?_
  · rintro y _ σ _ H3 hy ⟨hW, u, v, x, rfl⟩ ⟨rfl, rfl⟩
    walk_at "ws"
    refine i_rng1 (by omega) (by omega) ?_
    refine for_it walk_range (fun i σ H' => WebW K H hd c l m y i H' ∧ ∃ v x, σ = [some (.ref hd), some (.int m), some (.int kind), some (.ref l), some (.int (0 + (y : Int))), v, x]) ⟨hW, _, _, rfl⟩ (fun _ _ _ _ _ => trivial) ?_ ?_
    · rintro x _ σ _ H4 hx ⟨⟨ls, ws, g4, hh4, h4, hd4, hp, hz⟩, v, x', rfl⟩ ⟨rfl, rfl⟩
      refine w_seqM (fun σ H' => ∃ b : Bool, σ = [some (.ref hd), some (.int m), some (.int kind), some (.ref l), some (.int (0 + (y : Int))), some (.int (0 + (x : Int))), some (.bl b)] ∧ G (some (hd, c)) H4 H') (fun N kN => ?_) ?_
      · walk_at "ws"
        refine ⟨_, rfl, ?_⟩
        walk_at "ws"
        refine ⟨sz (by simp), fun q H5 hq g5 h5 => ?_⟩
        refine ⟨q, _, rfl, .inl (SqL.of h5), rfl, rfl, ?_⟩
        walk_at "ws"
        refine ⟨_, rfl, ?_⟩
        walk_at "ws"
        refine w_ite (fun e => ?_) (fun e => ?_) <;>
        · walk_at "ws"
          refine ⟨sz (by simp), fun p H6 hp g6 h6 => ?_⟩
          walk_at "ws"
          refine ⟨_, _, rfl, ?_⟩
          refine r_ixL (SqL.of h6) (at4 (by split <;> omega) (by split <;> omega)).choose_spec ?_
          walk_at "ws"
          exact kN _ _ ⟨_, rfl, (g5 _).trans (g6 _)⟩
      · rintro σ H5 ⟨b, rfl, g5⟩
        have hh5 := g5.hand _ rfl hh4
        refine w_seqM (fun σ H' => ∃ b : Bool, σ = [some (.ref hd), some (.int m), some (.int kind), some (.ref l), some (.int (0 + (y : Int))), some (.int (0 + (x : Int))), some (.bl b)] ∧ G (some (hd, c)) H4 H') (fun N kN => ?_) ?_
        · walk_at "ws"
          refine w_ite (fun e => ?_) (fun e => ?_)
          · walk_at "ws"
            refine ⟨hd, c, 4, rfl, hh5, by decide, by decide, fun r H6 r0 r1 g6 hh6 => ?_⟩
            walk_at "ws"
            exact kN _ _ ⟨_, rfl, g5.trans g6⟩
          · walk_at "ws"
            exact kN _ _ ⟨_, rfl, g5⟩
        · clear g5 hh5
          rintro σ H5 ⟨b, rfl, g5⟩
          have hh5 := g5.hand _ rfl hh4
          have h5 := g5.keep l _ offl h4
          have hd5 := hd4.g g5 (fun p e => by cases e; exact hh4)
          have g05 := g4.trans g5
          have done : WebW K H hd c l m y ((x : Int) + 1) H5 := ⟨ls, ws, g05, hh5, h5, hd5, hp.up (by omega), hz⟩
          walk_at "ws"
          refine w_ite (fun e => ?_) (fun e => ?_)
          · walk_at "ws"
            refine w_ite (fun eb => ?_) (fun eb => ?_)
            · walk_at "ws"
              refine i_BM h5 ?_
              walk_at "ws"
              refine ⟨sz (by simp), fun t H6 ht g6 h6 => ?_⟩
              have h6l := (g6 none).all _ _ h5
              have hd6 := hd5.g (g6 none) (fun _ e => nomatch e)
              walk_at "ws"
              refine r_app h6l (by rw [List.length_map]; omega) ?_
              walk_at "ws"
              have g06 := g05.trans (g6 _)
              have g07 : G (some (hd, c)) H (upd H6 l (.lst (ls.map V.ref ++ [.ref t]))) := g06.mut l0 (fun p e => by cases e; exact hh)
              have hp' := hp.app (y := y) (x := x) (by omega) (by omega) (by
                have := e
                simp at this
                omega)
              have hdt : H6 t = some (.tup [.int (y : Int), .int (x : Int)]) := by
                have z := h6
                simp only [Int.zero_add] at z
                exact z
              refine ⟨⟨ls ++ [t], ws ++ [((y : Int), (x : Int))], g07, g07.hand _ rfl hh, by rw [upd_same, List.map_append]; rfl, ?_, hp', ?_⟩, _, _, rfl⟩
              · exact (hd6.app (u := ((y : Int), (x : Int))) hdt).put h6l
              · have l1 := part_len hp' m7
                have l2 := hd6.1
                simp only [List.length_append, List.length_singleton] at l1 l2 ⊢
                omega
            · walk_at "ws"
              exact ⟨done, _, _, rfl⟩
          · walk_at "ws"
            exact ⟨done, _, _, rfl⟩
    · rintro σ H4 ⟨⟨ls, ws, g4, hh4, h4, hd4, hp, hz⟩, v, x', rfl⟩
      exact ⟨⟨ls, ws, g4, hh4, h4, hd4, hp.up (by omega), hz⟩, _, _, _, rfl⟩
  · rintro σ H4 ⟨⟨ls, ws, g4, hh4, h4, hd4, hp, hz⟩, u, v, x', rfl⟩
    walk_at "ws"
    refine ⟨l, _, rfl, .inl ⟨SqL.of h4, fun p H5 hp5 g5 h5 => ?_⟩⟩
    exact k p ls ws H5 (g4.trans (g5 _)) ((g5 (some (hd, c))).hand (hd, c) rfl hh4) (SqT.of h5) (hd4.g (g5 none) fun _ e => nomatch e) ⟨m1, m7, hp.mem, hp.asc⟩

end
end Mine
/-! ## K9 -/


namespace Mine
section
variable {P : Program} {w : World} {K : PySem.W.Frag} {mg : Str → Option Value} {base : Heap} {a : Ads}

/-! ### diaries with all puts -/
def upto (n : Nat) : List Int := (List.range n).map fun (i : Nat) => (i : Int)
theorem perm_pop {os ls : List Int} {r : Nat} (h : r < ls.length) {l : List Int} (p : (os ++ ls).Perm l) : ((os ++ [ls[r]]) ++ ls.eraseIdx r).Perm l := by
  refine List.Perm.trans ?_ p
  rw [List.append_assoc]
  refine List.Perm.append_left os ?_
  have e := List.take_append_drop r ls
  have e2 : ls.drop r = ls[r] :: ls.drop (r + 1) := List.drop_eq_getElem_cons h
  rw [List.eraseIdx_eq_take_drop_succ]
  have : ls = ls.take r ++ ls[r] :: ls.drop (r + 1) := by rw [← e2, e]
  conv => rhs; rw [this]
  show (ls[r] :: (ls.take r ++ ls.drop (r + 1))).Perm _
  exact List.perm_middle.symm
theorem erase_ints (ls : List Int) (r : Nat) : (ls.map V.int).eraseIdx r = (ls.eraseIdx r).map V.int := erase_mapI ls r

theorem dia_app {H : Hp} {bs : List Addr} {ds : List (List Int)} {b : Addr} {d : List Int} (h2 : bs.length = ds.length) (h3 : ∀ (i : Nat) (b : Addr) (d : List Int), bs[i]? = some b → ds[i]? = some d → FrzT H b (d.map V.int)) (hb : FrzT H b (d.map V.int)) :
    ∀ (i : Nat) (b' : Addr) (d' : List Int), (bs ++ [b])[i]? = some b' → (ds ++ [d])[i]? = some d' → FrzT H b' (d'.map V.int) := fun i b' d' e1 e2 => by
  by_cases c : i < bs.length
  · rw [List.getElem?_append_left c] at e1
    rw [List.getElem?_append_left (by omega)] at e2
    exact h3 i b' d' e1 e2
  · rw [List.getElem?_append_right (by omega)] at e1
    rw [List.getElem?_append_right (by omega), ← h2] at e2
    cases q : i - bs.length with
    | zero =>
      rw [q] at e1 e2
      simp at e1 e2
      subst e1 e2
      exact hb
    | succ j =>
      rw [q] at e1
      simp at e1
theorem FrzT.g {H H' : Hp} {p : Addr} {xs : List V} {o : Option (Addr × Addr)} (h : FrzT H p xs) (g : G o H H') (hh : ∀ q, o = some q → Hand H q.1 q.2) : FrzT H' p xs := by
  obtain ⟨ob, h, d⟩ := h
  refine ⟨ob, g.keep p _ (fun q e => ?_) h, d⟩
  obtain ⟨_, _, _, _, _, _, z, _⟩ := hh q e
  exact ne_of h z (by intro z; cases z)
theorem FrzT.put {H : Hp} {p l : Addr} {xs ys : List V} {u : HO} (h : FrzT H p xs) (hl : H l = some (.lst ys)) : FrzT (upd H l u) p xs := by
  obtain ⟨ob, h, d⟩ := h
  exact ⟨ob, by rw [upd_ne (ne_of h hl (by intro z; cases z))]; exact h, d⟩
theorem mo_len {K : PySem.W.Frag} {i : Nat} : MoE (tCB (rLenK K) (tCons (tVar i) tNil)) := fun σ H Q Q' k ⟨v, e, p, ys, e1, e2, q⟩ => ⟨v, e, p, ys, e1, e2, k _ _ q⟩
def sp__law_all_told (K : PySem.W.Frag) : Sp := fun vs H Q _ => ∃ (hd c : Addr) (m : Int) (wp : Addr) (ws : List Int), vs = [.ref hd, .int m, .ref wp] ∧ Hand H hd c ∧ 1 ≤ m ∧ m ≤ 7 ∧ SqT K H wp (ws.map V.int) ∧ ws.length ≤ 30 ∧
  ∀ (p : Addr) (ds : List (List Int)) H', G (some (hd, c)) H H' → Hand H' hd c → Dia K H' p ds → ds.length = m.toNat → (∀ d ∈ ds, d.Perm (upto ws.length)) → Q (.ref p) H'
theorem ok__law_all_told (T : Txt K mg a) : FnOk P w K mg base CX0 2 a.f__law_all_told a.d__law_all_told P__law_all_told (sp__law_all_told K) := by
  refine T.F__law_all_told.ok sc__law_all_told (fun vs H Q E h => by obtain ⟨hd, c, m, wp, ws, rfl, _⟩ := h; rfl) (fun cdv A outer s H vs Q E hr h => ?_)
  obtain ⟨hd, c, m, wp, ws, rfl, hh, m1, m7, hw, p30, k⟩ := h
  obtain ⟨n, rfl⟩ : ∃ n : Nat, m = (n : Int) := ⟨m.toNat, by omega⟩
  rw [Int.toNat_natCast] at k
  have G__law_draw : FnOk P w K mg base CX0 1 a.f__law_draw a.d__law_draw P__law_draw sp__law_draw := ok__law_draw T
  refine ⟨_, (pss_cons (ps_set (i := 3) sc__law_all_told.nd rfl (Or.inl rfl) (pe_lstN pa_nil))
  (pss_cons (ps_for PassesOwn.never rfl (pi_range1 rfl T.n_range (pa_cons (pv 1) pa_nil)) (pg_name (i := 4) sc__law_all_told.nd rfl (Or.inl rfl))
    (pss_cons (ps_set (i := 5) sc__law_all_told.nd rfl (Or.inr rfl) (pe_listRgN rfl (by rfl) T.n_list (prg_1 (by rfl) T.n_range (pe_callB call_len_seq (by rfl) T.n_len (by decide +kernel) (pa_cons (pv 2) pa_nil))) (mo_rg1 mo_len)))
  (pss_one (ps_expr (pe_bm PySem.F.plainAttrs_list PySem.F.slot_list_append PySem.F.type_list_append mt_append (pv 3) (pa_cons (pe_callTy call_tupleF (by rfl) T.n_tuple (by decide +kernel) (pa_cons (pe_lc (own := [("_law_turn", 6)]) (g := (gName 6)) (tt := tYes) rfl sc__law_all_told.nd (pi_range1 rfl T.n_range (pa_cons (pe_callB call_len_seq (by rfl) T.n_len (by decide +kernel) (pa_cons (pv 2) pa_nil)) pa_nil)) (blkOk_by (N := N__law_all_told) (sc := defScope s__law_all_told) (by decide +kernel)) (fun _ _ _ _ _ => (pg_name (i := 6) sc__law_all_told.nd rfl (by first | exact Or.inl rfl | exact Or.inr rfl))) (fun _ _ _ _ _ => pts_nil) (fun _ _ _ _ _ => (k_bm K PySem.F.plainAttrs_list PySem.F.slot_list_pop PySem.F.type_list_pop mt_popAt (pv 5) (pa_cons (pe_call (G__law_draw) (hr.mono (by omega)) rfl T.m__law_draw T.F__law_draw.kp T.b__law_draw .nil pass0 (pa_cons (pv 0) (pa_cons (pe_callB (k_call_len_seq K) (by rfl) T.n_len (by decide +kernel) (pa_cons (pv 5) pa_nil)) pa_nil))) pa_nil)))) pa_nil)) pa_nil))))))
  (pss_one (ps_ret (pe_callTy call_tupleN (by rfl) T.n_tuple (by decide +kernel) (pa_cons (pv 3) pa_nil)))))), ?_⟩
  walk_at "ws"
  refine ⟨sz (by simp), fun F H1 hF g1 h1 => ?_⟩
  have hhp : ∀ p, some (hd, c) = some p → Hand H p.1 p.2 := fun p e => by cases e; exact hh
  have offF : ∀ p, some (hd, c) = some p → F ≠ p.1 := fun p e => by cases e; exact hh.ne hF
  walk_at "ws"
  refine i_rng1 (by omega) (by omega) ?_
  rw [Int.toNat_natCast]
  refine for_it walk_range (fun i σ H' => (∃ (bs : List Addr) (ds : List (List Int)), G (some (hd, c)) H H' ∧ H' F = some (.lst (bs.map V.ref)) ∧ bs.length = ds.length ∧ (∀ (i : Nat) (b : Addr) (d : List Int), bs[i]? = some b → ds[i]? = some d → FrzT H' b (d.map V.int)) ∧ ds.length = i ∧ ∀ d ∈ ds, d.Perm (upto ws.length)) ∧ ∃ u4 u5 u6, σ = [some (.ref hd), some (.int n), some (.ref wp), some (.ref F), u4, u5, u6])
    ⟨⟨[], [], g1 _, h1, rfl, (fun i b d e => by simp at e), rfl, (fun _ h => nomatch h)⟩, _, _, _, rfl⟩ (fun _ _ _ _ _ => trivial) ?_ ?_
  · rintro x _ σ _ H2 hx ⟨⟨bs, ds, g2, h2F, lb, hb, ld, hds⟩, u4, u5, u6, rfl⟩ ⟨rfl, rfl⟩
    have hh2 : Hand H2 hd c := g2.hand (hd, c) rfl hh
    have hhp2 : ∀ p, some (hd, c) = some p → Hand H2 p.1 p.2 := fun p e => by cases e; exact hh2
    walk_at "ws"
    refine w_lstRg (w_rg1 ?_)
    walk_at "ws"
    refine ⟨wp, _, rfl, .inr (sqT_t g2.tups hw), _, rfl, ?_⟩
    rw [List.length_map]
    refine ⟨RgOk.of_le (by decide) (by omega) (by decide) (by omega), fun L H3 hL g3 h3 => ?_⟩
    have e1 : rgV 0 (ws.length : Int) = (upto ws.length).map V.int := by
      unfold rgV upto
      rw [List.map_map, Int.sub_zero, Int.toNat_natCast]
      refine List.map_congr_left fun i _ => ?_
      show V.int (0 + ((i : Nat) : Int)) = V.int ((i : Nat) : Int)
      rw [Int.zero_add]
    rw [e1] at h3
    walk_at "ws"
    have h3F := (g3 none).all _ _ h2F
    refine i_BM h3F ?_
    walk_at "ws"
    refine ⟨wp, _, rfl, .inr (sqT_t (g3 none).tups (sqT_t g2.tups hw)), ?_⟩
    walk_at "ws"
    rw [List.length_map]
    refine i_rng1 (by omega) (by omega) ?_
    rw [Int.toNat_natCast]
    intro D hD
    have hD2 : H2 D = none := back_none (g3 none) hD
    have nLD : L ≠ D := ne_of_none h3 hD
    have offL : ∀ p, some (hd, c) = some p → L ≠ p.1 := fun p e => by cases e; exact hh2.ne hL
    have offD : ∀ p, some (hd, c) = some p → D ≠ p.1 := fun p e => by cases e; exact hh2.ne hD2
    refine lc_it walk_range (fun i H' => ∃ os ls : List Int, G (some (hd, c)) H2 H' ∧ H' L = some (.lst (ls.map V.int)) ∧ H' D = some (.lst (os.map V.int)) ∧ (os ++ ls).Perm (upto ws.length) ∧ os.length = i) ⟨[], upto ws.length, (g3 _).mut hD2 hhp2, by rw [upd_ne nLD]; exact h3, upd_same, List.Perm.refl _, rfl⟩ (fun _ _ _ _ => trivial) ?_ ?_
    · rintro i _ _ H4 hi ⟨os, ls, g4, h4L, h4D, pm, ho⟩ ⟨rfl, rfl⟩
      have hll : os.length + ls.length = ws.length := by
        have := pm.length_eq
        unfold upto at this
        simpa using this
      walk_at "ws"
      refine ⟨rfl, ?_⟩
      walk_at "ws"
      refine i_BM h4L ?_
      walk_at "ws"
      refine ⟨L, _, rfl, .inl (SqL.of h4L), ?_⟩
      walk_at "ws"
      rw [List.length_map]
      refine ⟨hd, c, (ls.length : Int), rfl, g4.hand _ rfl hh2, by omega, by omega, fun r H5 r0 r1 g5 hh5 => ?_⟩
      walk_at "ws"
      have h5L := g5.keep L _ offL h4L
      have h5D := g5.keep D _ offD h4D
      have rl : r.toNat < ls.length := by omega
      refine ⟨L, ls.map V.int, r, r.toNat, .int ls[r.toNat], rfl, rfl, h5L, by omega, by omega, ?_, by rw [List.getElem?_map, List.getElem?_eq_getElem rl]; rfl, ?_⟩
      · unfold PySem.seqIndex?
        rw [List.length_map]
        have n0 : ¬ r < 0 := by omega
        simp [n0]
        omega
      · refine ⟨os.map V.int, by rw [upd_ne nLD.symm]; exact h5D, Nat.lt_of_le_of_lt (by rw [List.length_map]; omega : (os.map V.int).length ≤ 100000) (by decide), os ++ [ls[r.toNat]], ls.eraseIdx r.toNat, ?_, ?_, ?_, perm_pop rl pm, by rw [List.length_append, ho]; rfl⟩
        · exact ((g4.trans g5).mut hL hhp2).mut hD2 hhp2
        · rw [upd_ne nLD, upd_same, erase_ints]
        · rw [upd_same, List.map_append]; rfl
    · rintro H4 ⟨os, ls, g4, h4L, h4D, pm, ho⟩
      have hll : os.length + ls.length = ws.length := by
        have := pm.length_eq
        unfold upto at this
        simpa using this
      have l0 : ls = [] := List.eq_nil_of_length_eq_zero (by omega)
      subst l0
      rw [List.append_nil] at pm
      walk_at "ws"
      refine ⟨D, os.map V.int, rfl, SqL.of h4D, fun p H5 hp g5 h5 => ?_⟩
      walk_at "ws"
      have g25 := g4.trans (g5 _)
      have h5F := g25.keep F _ offF h2F
      refine r_app h5F (by rw [List.length_map]; omega) ?_
      walk_at "ws"
      have hb5 : ∀ (i : Nat) (b : Addr) (d : List Int), bs[i]? = some b → ds[i]? = some d → FrzT H5 b (d.map V.int) := fun i b d e1 e2 => FrzT.g (hb i b d e1 e2) g25 hhp2
      refine ⟨⟨bs ++ [p], ds ++ [os], (g2.trans g25).mut hF hhp, by rw [upd_same, List.map_append]; rfl, by simp [lb], fun i b d e1 e2 => FrzT.put (dia_app lb hb5 h5 i b d e1 e2) h5F, by rw [List.length_append, ld]; rfl, fun d hd' => ?_⟩, _, _, _, rfl⟩
      rcases List.mem_append.mp hd' with z | z
      · exact hds d z
      · have e : d = os := by simpa using z
        rw [e]; exact pm
  · rintro σ H2 ⟨⟨bs, ds, g2, h2F, lb, hb, ld, hds⟩, u4, u5, u6, rfl⟩
    walk_at "ws"
    refine ⟨F, _, rfl, .inl ⟨SqL.of h2F, fun p H3 hp g3 h3 => ?_⟩⟩
    exact k p ds H3 (g2.trans (g3 _)) ((g2.trans (g3 _)).hand (hd, c) rfl hh) ⟨bs, SqT.of h3, lb, fun i b d e1 e2 => (hb i b d e1 e2).n (g3 none)⟩ ld hds

end
end Mine
/-! ## K10 -/


namespace Mine
section
variable {P : Program} {w : World} {K : PySem.W.Frag} {mg : Str → Option Value} {base : Heap} {a : Ads}

/-! ### a diary bent -/
/-- a diary of x -/
structure IsDia (ws : List Int) (x : Int) (d : List Int) : Prop where
  nd : d.Nodup
  rng : ∀ p ∈ d, 0 ≤ p ∧ p < ws.length
  own : ∀ (p : Nat), ws[p]? = some x → (p : Int) ∈ d
theorem IsDia.perm {ws : List Int} {x : Int} {d d' : List Int} (h : IsDia ws x d) (p : d'.Perm d) : IsDia ws x d' := ⟨p.nodup_iff.mpr h.nd, fun q hq => h.rng q (p.mem_iff.mp hq), fun q hq => p.mem_iff.mpr (h.own q hq)⟩
theorem keep_ints {c : Int → Prop} [DecidablePred c] : ∀ own : List Int, (own.filterMap fun p => if c p then none else some (PyData.int p)) = (own.filter fun p => !decide (c p)).map PyData.int
  | [] => rfl
  | p :: l => by
    rw [List.filterMap_cons, List.filter_cons]
    by_cases h : c p
    · simp only [h, if_true, decide_true, Bool.not_true, Bool.false_eq_true, if_false]
      exact keep_ints l
    · simp only [h, if_false, decide_false, Bool.not_false, if_true, List.map_cons]
      rw [keep_ints l]
theorem keep_nats {c : Int → Prop} [DecidablePred c] : ∀ l : List Nat, (l.filterMap fun (p : Nat) => if c (p : Int) then none else some (PyData.int (p : Int))) = ((l.filter fun (p : Nat) => !decide (c (p : Int))).map fun (p : Nat) => (p : Int)).map PyData.int
  | [] => rfl
  | p :: l => by
    rw [List.filterMap_cons, List.filter_cons]
    by_cases h : c (p : Int)
    · simp only [h, if_true, decide_true, Bool.not_true, Bool.false_eq_true, if_false]
      exact keep_nats l
    · simp only [h, if_false, decide_false, Bool.not_false, if_true, List.map_cons]
      rw [keep_nats l]
theorem cut_from (xs : List V) {k : Nat} (h : k + 1 ≤ xs.length) : cutV xs (some ((k : Int) + 1)) none = xs.drop (k + 1) := by
  have e : ((k : Int) + 1) = ((k + 1 : Nat) : Int) := by omega
  unfold cutV
  rw [HT.sIx_none, e, HT.sIx_nat, Nat.min_eq_left h]
  exact List.take_of_length_le (by rw [List.length_drop]; exact Nat.le_refl _)
theorem ix_nat {n i : Nat} (h : i < n) : ixN n (i : Int) = some i := by
  unfold ixN
  rw [if_pos (by omega), if_pos (by omega)]
  simp
theorem ix_nat' {n i : Nat} (h : i + 1 < n) : ixN n ((i : Int) + 1) = some (i + 1) := by
  have := ix_nat h
  rw [← this]
  congr 1
theorem swap_perm : ∀ (l : List Int) (i : Nat) (h : i + 1 < l.length), ((l.set i l[i + 1]).set (i + 1) (l[i]'(by omega))).Perm l
  | a :: b :: t, 0, _ => List.Perm.swap ..
  | [a], 0, h => by simp at h
  | a :: t, i + 1, h => by
    have h' : i + 1 < t.length := by simpa using h
    exact (swap_perm t i h').cons a
theorem IsDia.less {ws : List Int} {x : Int} {d : List Int} {v : Int} {j : Nat} (h : IsDia ws x d) (e : d[j]? = some v) (nx : ∀ w, ws[v.toNat]? = some w → w ≠ x) : IsDia ws x (d.eraseIdx j) := by
  refine ⟨h.nd.sublist (List.eraseIdx_sublist d j), fun q hq => h.rng q (List.mem_of_mem_eraseIdx hq), fun q hq => ?_⟩
  obtain ⟨i, hi⟩ := List.getElem?_of_mem (h.own q hq)
  have ne : i ≠ j := fun z => by
    subst z
    rw [hi] at e
    have e := Option.some.inj e
    subst e
    exact nx x (by rw [Int.toNat_natCast]; exact hq) rfl
  exact List.mem_eraseIdx_iff_getElem?.mpr ⟨i, ne, hi⟩
theorem IsDia.more {ws : List Int} {x : Int} {d d' : List Int} {v : Int} (h : IsDia ws x d) (n : v ∉ d) (hv : 0 ≤ v ∧ v < ws.length) (p : d'.Perm (v :: d)) : IsDia ws x d' := by
  refine ⟨p.nodup_iff.mpr (List.nodup_cons.mpr ⟨n, h.nd⟩), fun q hq => ?_, fun q hq => p.mem_iff.mpr (List.mem_cons_of_mem _ (h.own q hq))⟩
  rcases List.mem_cons.mp (p.mem_iff.mp hq) with e | e
  · rw [e]; exact hv
  · exact h.rng q e
theorem IsRec.dia {ws : List Int} {ds : List (List Int)} (h : IsRec ws ds) {x : Nat} {d : List Int} (e : ds[x]? = some d) : IsDia ws x d := ⟨h.nd d (List.mem_of_getElem? e), h.rng d (List.mem_of_getElem? e), fun p hp => h.own p x d hp (by rw [Int.toNat_natCast]; exact e)⟩
theorem IsRec.set {ws : List Int} {ds : List (List Int)} (h : IsRec ws ds) {x : Nat} {d : List Int} (hd : IsDia ws x d) : IsRec ws (ds.set x d) := by
  refine ⟨by rw [List.length_set]; exact h.m1, by rw [List.length_set]; exact h.m7, h.p30, fun w hw => by rw [List.length_set]; exact h.wr w hw, fun e he => ?_, fun e he => ?_, fun p w e hp he => ?_⟩
  · rcases List.mem_or_eq_of_mem_set he with z | z
    · exact h.nd e z
    · rw [z]; exact hd.nd
  · rcases List.mem_or_eq_of_mem_set he with z | z
    · exact h.rng e z
    · rw [z]; exact hd.rng
  · rw [List.getElem?_set] at he
    by_cases c : x = w.toNat
    · rw [if_pos c] at he
      split at he
      · cases he
        have wm := h.wr w (List.mem_of_getElem? hp)
        have ew : (x : Int) = w := by omega
        exact hd.own p (by rw [ew]; exact hp)
      · cases he
    · rw [if_neg c] at he
      exact h.own p w e hp he
def sp__law_bent (K : PySem.W.Frag) : Sp := fun vs H Q _ => ∃ (hd c wp dp : Addr) (ws : List Int) (ds : List (List Int)), vs = [.ref hd, .ref wp, .ref dp] ∧ Hand H hd c ∧ SqT K H wp (ws.map V.int) ∧ Dia K H dp ds ∧ IsRec ws ds ∧
  ∀ (p : Addr) (ds' : List (List Int)) H', G (some (hd, c)) H H' → Hand H' hd c → Dia K H' p ds' → IsRec ws ds' → ds'.length = ds.length → Q (.ref p) H'
theorem ok__law_bent (T : Txt K mg a) : FnOk P w K mg base CX0 2 a.f__law_bent a.d__law_bent P__law_bent (sp__law_bent K) := by
  refine T.F__law_bent.ok sc__law_bent (fun vs H Q E h => by obtain ⟨hd, c, wp, dp, ws, ds, rfl, _⟩ := h; rfl) (fun cdv A outer s H vs Q E hr h => ?_)
  obtain ⟨hd, c, wp, dp, ws, ds, rfl, hh, hw, hdia, rec, k⟩ := h
  have G__law_draw : FnOk P w K mg base CX0 1 a.f__law_draw a.d__law_draw P__law_draw sp__law_draw := ok__law_draw T
  have m1 := rec.m1
  have m7 := rec.m7
  have p30 := rec.p30
  have hhp : ∀ p, some (hd, c) = some p → Hand H p.1 p.2 := fun p e => by cases e; exact hh
  refine ⟨_, (pss_cons (ps_set (i := 3) sc__law_bent.nd rfl (Or.inr rfl) (pe_call (G__law_draw) (hr.mono (by omega)) rfl T.m__law_draw T.F__law_draw.kp T.b__law_draw .nil pass0 (pa_cons (pv 0) (pa_cons (pe_callB call_len_seq (by rfl) T.n_len (by decide +kernel) (pa_cons (pv 2) pa_nil)) pa_nil))))
  (pss_cons (ps_set (i := 4) sc__law_bent.nd rfl (Or.inr rfl) (pe_callTy call_listN (by rfl) T.n_list (by decide +kernel) (pa_cons (pe_ix ix_tup (pv 2) (pv 3) (fun _ _ => rfl)) pa_nil)))
  (pss_cons (ps_set (i := 5) sc__law_bent.nd rfl (Or.inl rfl) (pe_call (G__law_draw) (hr.mono (by omega)) rfl T.m__law_draw T.F__law_draw.kp T.b__law_draw .nil pass0 (pa_cons (pv 0) (pa_cons pe_int pa_nil))))
  (pss_cons (ps_if (L2.PW.pt (pw_and (pt_cmpR op_eq (pv 5) pe_int (nomark _)) (pw_and1 (pt_cmpR op_gt (pe_callB call_len_seq (by rfl) T.n_len (by decide +kernel) (pa_cons (pv 4) pa_nil)) pe_int (nomark _)))))
    (pss_cons (ps_set (i := 6) sc__law_bent.nd rfl (Or.inl rfl) (pe_call (G__law_draw) (hr.mono (by omega)) rfl T.m__law_draw T.F__law_draw.kp T.b__law_draw .nil pass0 (pa_cons (pv 0) (pa_cons (pe_op op_sub (pe_callB call_len_seq (by rfl) T.n_len (by decide +kernel) (pa_cons (pv 4) pa_nil)) pe_int) pa_nil))))
  (pss_one (ps_asg (pe_tupN (pa_cons (pe_ix ix_list (pv 4) (pe_op op_add (pv 6) pe_int) (fun _ _ => rfl)) (pa_cons (pe_ix ix_list (pv 4) (pv 6) (fun _ _ => rfl)) pa_nil))) (pg_tup rfl (pgs_cons (pg_sub (pv 4) (pv 6) set_list) (pgs_cons (pg_sub (pv 4) (pe_op op_add (pv 6) pe_int) set_list) pgs_nil))))))
    pss_nil)
  (pss_cons (ps_setLc (i := 7) (own := [("_law_put", 9)]) (g := (gName 9))  rfl sc__law_bent.nd rfl rfl (sw_true rfl rfl rfl (by decide +kernel)) (pi_list (pv 4)) (blkOk_by (N := N__law_bent) (sc := defScope s__law_bent) (by decide +kernel)) (fun _ _ _ _ _ => (pg_name (i := 9) sc__law_bent.nd rfl (by first | exact Or.inl rfl | exact Or.inr rfl))) (fun _ _ _ _ _ => (pts_one (pt_cmpR op_ne (pe_ix (k_ix_tup K) (pv 1) (pv 9) (fun _ _ => rfl)) (pv 3) (nomark _)))) (fun _ _ _ _ _ => (pv 9)))
  (pss_cons (ps_if (L2.PW.pt (pw_and (pt_cmpR op_eq (pv 5) pe_int (nomark _)) (pw_and1 (pt_cmpR op_gt (pe_callB call_len_seq (by rfl) T.n_len (by decide +kernel) (pa_cons (pv 7) pa_nil)) pe_int (nomark _)))))
    (pss_one (ps_expr (pe_bm PySem.F.plainAttrs_list PySem.F.slot_list_remove PySem.F.type_list_remove mt_remove (pv 4) (pa_cons (pe_ix ix_list (pv 7) (pe_call (G__law_draw) (hr.mono (by omega)) rfl T.m__law_draw T.F__law_draw.kp T.b__law_draw .nil pass0 (pa_cons (pv 0) (pa_cons (pe_callB call_len_seq (by rfl) T.n_len (by decide +kernel) (pa_cons (pv 7) pa_nil)) pa_nil))) (fun _ _ => rfl)) pa_nil))))
    pss_nil)
  (pss_cons (ps_setLc (i := 8) (own := [("_law_put", 9)]) (g := (gName 9))  rfl sc__law_bent.nd rfl rfl (sw_true rfl rfl rfl (by decide +kernel)) (pi_range1 rfl T.n_range (pa_cons (pe_callB call_len_seq (by rfl) T.n_len (by decide +kernel) (pa_cons (pv 1) pa_nil)) pa_nil)) (blkOk_by (N := N__law_bent) (sc := defScope s__law_bent) (by decide +kernel)) (fun _ _ _ _ _ => (pg_name (i := 9) sc__law_bent.nd rfl (by first | exact Or.inl rfl | exact Or.inr rfl))) (fun _ _ _ _ _ => (pts_one (pt_cmpR (k_op_notIn_seq K) (pv 9) (pv 4) (by rfl)))) (fun _ _ _ _ _ => (pv 9)))
  (pss_cons (ps_if (L2.PW.pt (pw_and (pt_cmpR op_eq (pv 5) pe_int (nomark _)) (pw_and1 (pt_cmpR op_gt (pe_callB call_len_seq (by rfl) T.n_len (by decide +kernel) (pa_cons (pv 8) pa_nil)) pe_int (nomark _)))))
    (pss_one (ps_expr (pe_bm PySem.F.plainAttrs_list PySem.F.slot_list_insert PySem.F.type_list_insert mt_insert (pv 4) (pa_cons (pe_call (G__law_draw) (hr.mono (by omega)) rfl T.m__law_draw T.F__law_draw.kp T.b__law_draw .nil pass0 (pa_cons (pv 0) (pa_cons (pe_op op_add (pe_callB call_len_seq (by rfl) T.n_len (by decide +kernel) (pa_cons (pv 4) pa_nil)) pe_int) pa_nil))) (pa_cons (pe_ix ix_list (pv 8) (pe_call (G__law_draw) (hr.mono (by omega)) rfl T.m__law_draw T.F__law_draw.kp T.b__law_draw .nil pass0 (pa_cons (pv 0) (pa_cons (pe_callB call_len_seq (by rfl) T.n_len (by decide +kernel) (pa_cons (pv 8) pa_nil)) pa_nil))) (fun _ _ => rfl)) pa_nil)))))
    pss_nil)
  (pss_one (ps_ret (pe_op op_catN (pe_op op_catN (pe_slice sl_tupAN (pv 2) po_none (po_some (pv 3))) (pe_tupN (pa_cons (pe_callTy call_tupleF (by rfl) T.n_tuple (by decide +kernel) (pa_cons (pv 4) pa_nil)) pa_nil))) (pe_slice sl_tupAN (pv 2) (po_some (pe_op op_add (pv 3) pe_int)) po_none)))))))))))), ?_⟩
  walk_at "ws"
  obtain ⟨bs, hbs, lb, hb⟩ := id hdia
  refine ⟨dp, _, rfl, .inr hbs, ?_⟩
  walk_at "ws"
  rw [List.length_map]
  refine ⟨hd, c, _, rfl, hh, by omega, by omega, fun r H1 r0 r1 g1 hh1 => ?_⟩
  obtain ⟨x, rfl⟩ : ∃ x : Nat, r = (x : Int) := ⟨r.toNat, by omega⟩
  obtain ⟨b, hbx⟩ : ∃ b, bs[x]? = some b := ⟨_, List.getElem?_eq_getElem (by omega)⟩
  obtain ⟨d, hdx⟩ : ∃ d, ds[x]? = some d := ⟨_, List.getElem?_eq_getElem (by omega)⟩
  have hf := FrzT.g (hb x b d hbx hdx) g1 hhp
  have isd := rec.dia hdx
  walk_at "ws"
  refine r_ixT (sqT_t g1.tups hbs) (v := .ref b) (at_of (j := x) rfl (by rw [List.getElem?_map, hbx]; rfl)) ?_
  refine ⟨b, _, rfl, .inr hf.sq, fun O H2 hO g2 h2 => ?_⟩
  have hO0 : H O = none := new_back g1 hh1 hO
  have offO : ∀ p, some (hd, c) = some p → O ≠ p.1 := fun p e => by cases e; exact hh.ne hO0
  walk_at "ws"
  have hh2 : Hand H2 hd c := (g2 (some (hd, c))).hand _ rfl hh1
  refine ⟨hd, c, 3, rfl, hh2, by decide, by decide, fun kind H3 _ _ g3 hh3 => ?_⟩
  have h3 := g3.keep O _ offO h2
  have g03 := (g1.trans (g2 _)).trans g3
  walk_at "wn"
  dsimp only
  refine w_seqM (fun σ H' => ∃ (own : List Int) (u6 u7 u8 u9 : Option V), σ = [some (.ref hd), some (.ref wp), some (.ref dp), some (.int (x : Int)), some (.ref O), some (.int kind), u6, u7, u8, u9] ∧ G (some (hd, c)) H H' ∧ H' O = some (.lst (own.map V.int)) ∧ IsDia ws x own) (fun N kN => ?_) ?_
  · walk_at "ws"
    refine w_ite (fun e => ?_) (fun e => ?_)
    · walk_at "ws"
      refine ⟨O, _, rfl, .inl (SqL.of h3), ?_⟩
      walk_at "ws"
      rw [List.length_map]
      refine w_ite (fun e2 => ?_) (fun e2 => ?_)
      · have big : (1 : Int) < (d.length : Int) := of_decide_eq_true e2
        have dl := diary_len isd.nd isd.rng
        walk_at "ws"
        refine ⟨O, _, rfl, .inl (SqL.of h3), ?_⟩
        walk_at "ws"
        rw [List.length_map]
        refine ⟨hd, c, _, rfl, hh3, by omega, by omega, fun r H4 r0 r1 g4 hh4 => ?_⟩
        obtain ⟨i, rfl⟩ : ∃ i : Nat, r = (i : Int) := ⟨r.toNat, by omega⟩
        have h4 := g4.keep O _ offO h3
        have hi : i + 1 < d.length := by omega
        walk_at "ws"
        refine r_ixL (SqL.of h4) (v := .int d[i + 1]) (at_of (j := i + 1) (by omega) (by rw [List.getElem?_map, List.getElem?_eq_getElem hi]; rfl)) ?_
        walk_at "ws"
        refine r_ixL (SqL.of h4) (v := .int d[i]) (at_of (j := i) rfl (by rw [List.getElem?_map, List.getElem?_eq_getElem (by omega)]; rfl)) ?_
        walk_at "ws"
        refine ⟨sz (by simp), fun t H5 ht g5 h5 => ?_⟩
        have h5O := (g5 none).all _ _ h4
        refine ⟨t, _, rfl, SqT.of h5, rfl, ?_⟩
        refine ⟨_, _, rfl, ?_⟩
        walk_at "ws"
        refine ⟨O, _, _, i, rfl, rfl, h5O, ix_nat (by rw [List.length_map]; omega), ?_⟩
        refine ⟨_, _, rfl, ?_⟩
        walk_at "ws"
        refine ⟨O, _, _, i + 1, rfl, rfl, upd_same, ix_nat' (by rw [List.length_set, List.length_map]; omega), ?_⟩
        have e3 : (((d.map V.int).set i (.int d[i + 1])).set (i + 1) (.int d[i])) = (((d.set i d[i + 1]).set (i + 1) d[i]).map V.int) := by rw [List.map_set, List.map_set]
        refine ⟨rfl, ?_⟩
        refine kN _ _ ?_
        refine ⟨_, _, _, _, _, rfl, ((((g03.trans g4).trans (g5 _)).mut hO0 hhp).mut hO0 hhp), by rw [upd_same, e3], isd.perm (swap_perm d i hi)⟩
      · walk_at "ws"
        exact kN _ _ ⟨d, _, _, _, _, rfl, g03, h3, isd⟩
    · walk_at "ws"
      exact kN _ _ ⟨d, _, _, _, _, rfl, g03, h3, isd⟩
  · clear h3 g03 hh3 g3 hh2 g2 h2
    rintro σ H3 ⟨own, u6, u7, u8, u9, rfl, g03, h3, isd⟩
    have hh3 : Hand H3 hd c := g03.hand (hd, c) rfl hh
    have ol := diary_len isd.nd isd.rng
    have hw3 := sqT_t g03.tups hw
    walk_at "ws"
    refine i_list (SqL.of h3) ?_
    intro D hD
    refine lc_pure (K := K) (o := none) (walk_list (xs := own.map V.int)) (by rw [List.length_map]; omega) hD (fun _ e => nomatch e) (fun i => own[i]?.bind fun p => if ws[p.toNat]? = some (x : Int) then none else some (PyData.int p)) (fun H' g => SqL.of (g.all _ _ h3)) ?_ ?_
    · rintro i v _ H4 hi g4 ⟨rfl, hv⟩ Qy Qn ky kn
      rw [List.getElem?_map] at hv
      obtain ⟨p, hp, rfl⟩ := Option.map_eq_some_iff.mp hv
      have pm := isd.rng p (List.mem_of_getElem? hp)
      obtain ⟨w0, hw0⟩ : ∃ w0, ws[p.toNat]? = some w0 := ⟨_, List.getElem?_eq_getElem (by omega)⟩
      walk_at "ws"
      refine ⟨rfl, ?_⟩
      walk_at "ws"
      refine r_ixT (sqT_t g4.tups hw3) (v := .int w0) (at_of (j := p.toNat) (by omega) (by rw [List.getElem?_map, hw0]; rfl)) ?_
      walk_at "ws"
      refine w_ite (fun e => ?_) (fun e => ?_)
      · walk_at "ws"
        have e' : ¬ w0 = (x : Int) := by simpa using e
        exact ky _ _ _ G.refl (.int p) rfl (by rw [hp, Option.bind_some, hw0, if_neg (fun z => e' (Option.some.inj z))])
      · have e' : w0 = (x : Int) := by simpa using e
        exact kn _ G.refl (by rw [hp, Option.bind_some, hw0, if_pos (by rw [e'])])
    intro xs H4 g4 hD4 hds hnl
    rw [List.length_map, filterMap_range_fm] at hds
    have e4 : (own.filterMap fun p => if ws[p.toNat]? = some (x : Int) then none else some (PyData.int p)) = (own.filter fun p => !decide (ws[p.toNat]? = some (x : Int))).map PyData.int := by
      exact keep_ints own
    rw [e4] at hds
    obtain rfl := DpAll.of_ints hds
    have h4 := g4.all _ _ h3
    have g04 := g03.trans g4.up
    have hh4 : Hand H4 hd c := g04.hand (hd, c) rfl hh
    have hD0 : H D = none := new_back g03 hh3 hD
    have offD : ∀ p, some (hd, c) = some p → D ≠ p.1 := fun p e => by cases e; exact hh.ne hD0
    walk_at "wn"
    dsimp only
    refine w_seqM (fun σ H' => ∃ (own : List Int) (u6 u7 u8 u9 : Option V), σ = [some (.ref hd), some (.ref wp), some (.ref dp), some (.int (x : Int)), some (.ref O), some (.int kind), u6, u7, u8, u9] ∧ G (some (hd, c)) H H' ∧ H' O = some (.lst (own.map V.int)) ∧ IsDia ws x own) (fun N kN => ?_) ?_
    · walk_at "ws"
      refine w_ite (fun e => ?_) (fun e => ?_)
      · walk_at "ws"
        refine ⟨D, _, rfl, .inl (SqL.of hD4), ?_⟩
        walk_at "ws"
        rw [List.length_map]
        refine w_ite (fun e2 => ?_) (fun e2 => ?_)
        · have big := of_decide_eq_true e2
          have fl := List.length_filter_le (fun p : Int => !decide (ws[p.toNat]? = some (x : Int))) own
          walk_at "ws"
          refine i_BM h4 ?_
          walk_at "ws"
          refine ⟨D, _, rfl, .inl (SqL.of hD4), ?_⟩
          walk_at "ws"
          rw [List.length_map]
          refine ⟨hd, c, _, rfl, hh4, by omega, by omega, fun r H5 r0 r1 g5 hh5 => ?_⟩
          have hD5 := g5.keep D _ offD hD4
          have h5 := g5.keep O _ offO h4
          obtain ⟨v, hv⟩ : ∃ v, (own.filter fun p => !decide (ws[p.toNat]? = some (x : Int)))[r.toNat]? = some v := ⟨_, List.getElem?_eq_getElem (by omega)⟩
          have vm := List.mem_filter.mp (List.mem_of_getElem? hv)
          refine r_ixL (SqL.of hD5) (v := .int v) (at_of (j := r.toNat) (by omega) (by rw [List.getElem?_map, hv]; rfl)) ?_
          walk_at "ws"
          refine ⟨O, own, v, own.idxOf v, rfl, rfl, h5, idx_at vm.1, fun m hm e => ?_, ?_⟩
          · have := idx_of isd.nd e
            omega
          walk_at "ws"
          refine kN _ _ ?_
          exact ⟨_, _, _, _, _, rfl, (g04.trans g5).mut hO0 hhp, upd_same, isd.less (idx_at vm.1) fun w hw z => by
            have q := vm.2
            rw [hw, z] at q
            simp at q⟩
        · walk_at "ws"
          exact kN _ _ ⟨own, _, _, _, _, rfl, g04, h4, isd⟩
      · walk_at "ws"
        exact kN _ _ ⟨own, _, _, _, _, rfl, g04, h4, isd⟩
    clear hnl g04 g4 hds hD4 h4 hh4 g03 h3 hh3 isd ol e4 offD hD0 hD hw3
    clear own
    rintro σ H3 ⟨own, u6, u7, u8, u9, rfl, g03, h3, isd⟩
    have hh3 : Hand H3 hd c := g03.hand (hd, c) rfl hh
    have ol := diary_len isd.nd isd.rng
    have hw3 := sqT_t g03.tups hw
    walk_at "ws"
    refine ⟨wp, _, rfl, .inr hw3, ?_⟩
    walk_at "ws"
    rw [List.length_map]
    refine i_rng1 (by omega) (by omega) ?_
    rw [Int.toNat_natCast]
    intro D hD
    refine lc_pure (K := K) (o := none) walk_range (by omega) hD (fun _ e => nomatch e) (fun (i : Nat) => if (i : Int) ∈ own then none else some (PyData.int (i : Int))) (fun _ _ => trivial) ?_ ?_
    · rintro i _ _ H4 hi g4 ⟨rfl, rfl⟩ Qy Qn ky kn
      walk_at "ws"
      refine ⟨rfl, ?_⟩
      walk_at "ws"
      refine ⟨O, _, rfl, .inl (SqL.of (g4.all _ _ h3)), rfl, by rw [List.all_map, List.all_eq_true]; intro q _; rfl, ?_⟩
      have ein : inV (.int (0 + (i : Int))) (own.map V.int) = decide ((i : Int) ∈ own) := by
        unfold inV
        rw [List.any_map, Bool.eq_iff_iff, List.any_eq_true, decide_eq_true_iff]
        constructor
        · rintro ⟨z, hz, e⟩
          have e : z = (i : Int) := by simpa [eqV] using e
          exact e ▸ hz
        · intro h
          exact ⟨_, h, by simp [eqV]⟩
      rw [ein]
      by_cases c : (i : Int) ∈ own
      · rw [decide_eq_true c]
        walk_at "ws"
        refine w_iteN rfl ?_
        exact kn _ G.refl (by rw [if_pos c])
      · rw [decide_eq_false c]
        walk_at "ws"
        refine w_iteE rfl ?_
        walk_at "ws"
        exact ky _ _ _ G.refl (.int _) rfl (by rw [if_neg c, Int.zero_add])
    intro xs H4 g4 hD4 hds hnl
    have e4 : ((List.range ws.length).filterMap fun (i : Nat) => if (i : Int) ∈ own then none else some (PyData.int (i : Int))) = (((List.range ws.length).filter fun (i : Nat) => !decide ((i : Int) ∈ own)).map fun (i : Nat) => (i : Int)).map PyData.int := keep_nats _
    rw [e4] at hds
    obtain rfl := DpAll.of_ints hds
    have h4 := g4.all _ _ h3
    have g04 := g03.trans g4.up
    have hh4 : Hand H4 hd c := g04.hand (hd, c) rfl hh
    have hD0 : H D = none := new_back g03 hh3 hD
    have offD : ∀ p, some (hd, c) = some p → D ≠ p.1 := fun p e => by cases e; exact hh.ne hD0
    walk_at "wn"
    dsimp only
    refine w_seqM (fun σ H' => ∃ (own : List Int) (u6 u7 u8 u9 : Option V), σ = [some (.ref hd), some (.ref wp), some (.ref dp), some (.int (x : Int)), some (.ref O), some (.int kind), u6, u7, u8, u9] ∧ G (some (hd, c)) H H' ∧ H' O = some (.lst (own.map V.int)) ∧ IsDia ws x own) (fun N kN => ?_) ?_
    · walk_at "ws"
      refine w_ite (fun e => ?_) (fun e => ?_)
      · walk_at "ws"
        refine ⟨D, _, rfl, .inl (SqL.of hD4), ?_⟩
        walk_at "ws"
        rw [List.length_map, List.length_map]
        refine w_ite (fun e2 => ?_) (fun e2 => ?_)
        · have big := of_decide_eq_true e2
          have fl := List.length_filter_le (fun i : Nat => !decide ((i : Int) ∈ own)) (List.range ws.length)
          rw [List.length_range] at fl
          walk_at "ws"
          refine i_BM h4 ?_
          walk_at "ws"
          refine ⟨O, _, rfl, .inl (SqL.of h4), ?_⟩
          walk_at "ws"
          rw [List.length_map]
          refine ⟨hd, c, _, rfl, hh4, by omega, by omega, fun r H5 r0 r1 g5 hh5 => ?_⟩
          have hD5 := g5.keep D _ offD hD4
          walk_at "ws"
          refine ⟨D, _, rfl, .inl (SqL.of hD5), ?_⟩
          walk_at "ws"
          rw [List.length_map, List.length_map]
          refine ⟨hd, c, _, rfl, hh5, by omega, by omega, fun r2 H6 r20 r21 g6 hh6 => ?_⟩
          have hD6 := g6.keep D _ offD hD5
          have h6 := g6.keep O _ offO (g5.keep O _ offO h4)
          obtain ⟨v, hv⟩ : ∃ v, ((List.range ws.length).filter fun (i : Nat) => !decide ((i : Int) ∈ own))[r2.toNat]? = some v := ⟨_, List.getElem?_eq_getElem (by omega)⟩
          have vm := List.mem_filter.mp (List.mem_of_getElem? hv)
          have vr := List.mem_range.mp vm.1
          refine r_ixL (SqL.of hD6) (v := .int (v : Int)) (at_of (j := r2.toNat) (by omega) (by rw [List.getElem?_map, List.getElem?_map, hv]; rfl)) ?_
          walk_at "ws"
          refine ⟨O, _, r, .int (v : Int), rfl, rfl, h6, Nat.lt_of_le_of_lt (by rw [List.length_map]; omega : (own.map V.int).length ≤ 100000) (by decide), r0, by omega, ?_⟩
          walk_at "ws"
          refine kN _ _ ?_
          refine ⟨own.take r.toNat ++ [(v : Int)] ++ own.drop r.toNat, _, _, _, _, rfl, ((g04.trans g5).trans g6).mut hO0 hhp, by rw [upd_same, List.map_append, List.map_append, List.map_take, List.map_drop]; rfl, isd.more (v := (v : Int)) (by simpa using vm.2) (by omega) ?_⟩
          rw [List.append_assoc]
          refine List.perm_middle.trans ?_
          show ((v : Int) :: (own.take r.toNat ++ own.drop r.toNat)).Perm _
          rw [List.take_append_drop]
        · walk_at "ws"
          exact kN _ _ ⟨own, _, _, _, _, rfl, g04, h4, isd⟩
      · walk_at "ws"
        exact kN _ _ ⟨own, _, _, _, _, rfl, g04, h4, isd⟩
    clear hnl g04 g4 hds hD4 h4 hh4 g03 h3 hh3 isd ol e4 offD hD0 hD hw3
    clear own
    rintro σ H3 ⟨own, u6, u7, u8, u9, rfl, g03, h3, isd⟩
    have hh3 : Hand H3 hd c := g03.hand (hd, c) rfl hh
    have hbs3 := sqT_t g03.tups hbs
    have lx : x < bs.length := (List.getElem?_eq_some_iff.mp hbx).1
    walk_at "ws"
    refine ⟨dp, _, rfl, hbs3, fun p1 H4 g4 h4 => ?_⟩
    rw [cut_to _ (by rw [List.length_map]; omega), ← List.map_take] at h4
    walk_at "ws"
    refine ⟨O, _, rfl, SqL.of ((g4 none).all _ _ h3), fun t H5 ht g5 h5 => ?_⟩
    walk_at "ws"
    refine ⟨sz (by simp), fun q H6 hq g6 h6 => ?_⟩
    refine ⟨p1, q, _, _, rfl, rfl, sqT_t ((g5 none).trans (g6 none)).tups h4, SqT.of h6, by simp; omega, fun p2 H7 g7 h7 => ?_⟩
    walk_at "ws"
    have g37 := (((g4 none).trans (g5 none)).trans (g6 none)).trans (g7 none)
    refine ⟨dp, _, rfl, sqT_t g37.tups hbs3, fun p3 H8 g8 h8 => ?_⟩
    rw [cut_from _ (by rw [List.length_map]; omega), ← List.map_drop] at h8
    refine ⟨p2, p3, _, _, rfl, rfl, sqT_t (g8 none).tups h7, h8, by simp; omega, fun p4 H9 g9 h9 => ?_⟩
    have g39 := (g37.trans (g8 none)).trans (g9 none)
    have e9 : bs.take x ++ [t] ++ bs.drop (x + 1) = bs.set x t := by
      rw [List.set_eq_take_append_cons_drop, if_pos lx, List.append_assoc]; rfl
    have e10 : (bs.take x).map V.ref ++ [V.ref t] ++ (bs.drop (x + 1)).map V.ref = (bs.set x t).map V.ref := by
      rw [← e9, List.map_append, List.map_append]; rfl
    rw [e10] at h9
    have g09 := g03.trans g39.up
    refine k p4 (ds.set x own) H9 g09 (g09.hand (hd, c) rfl hh) ⟨bs.set x t, h9, by rw [List.length_set, List.length_set]; exact lb, fun i b' d' e1 e2 => ?_⟩ (rec.set isd) (by rw [List.length_set])
    rw [List.getElem?_set] at e1 e2
    by_cases c : x = i
    · rw [if_pos c, if_pos lx] at e1
      rw [if_pos c, if_pos (by omega)] at e2
      cases e1
      cases e2
      exact h5.n ((((g6 none).trans (g7 none)).trans (g8 none)).trans (g9 none))
    · rw [if_neg c] at e1 e2
      exact FrzT.g (hb i b' d' e1 e2) g09 hhp

end
end Mine
/-! ## K11 -/


namespace Mine
section
variable {P : Program} {w : World} {K : PySem.W.Frag} {mg : Str → Option Value} {base : Heap} {a : Ads}

/-! ### puts and letters led by drawn steps: words -/
theorem k_tupleF {X : Cx} (K : PySem.W.Frag) (hK : X.K = K := by rfl) : CallR X (.type "tuple") (rTupleF K) := by subst hK; exact call_tupleF
/-- the dict of letters: from a wire to the list of the letters on it -/
def keyOfP (u : Int × Int) : List L2.Key := [.inl u.1, .inl u.2]
def dtOf : List (Int × Int) → List Addr → List (List L2.Key × V)
  | u :: W, l :: ls => (keyOfP u, V.ref l) :: dtOf W ls
  | _, _ => []
theorem keyOfP_inj {u v : Int × Int} (e : keyOfP u = keyOfP v) : u = v := by
  unfold keyOfP at e
  simp only [List.cons.injEq, Sum.inl.injEq, and_true] at e
  exact Prod.ext e.1 e.2
theorem valT : ∀ {W : List (Int × Int)} {ls : List Addr} {i : Nat} {u : Int × Int} {l : Addr}, W.Nodup → W[i]? = some u → ls[i]? = some l → valV (dtOf W ls) (keyOfP u) = some (.ref l)
  | [], _, _, _, _, _, e, _ => by simp at e
  | _ :: _, [], _, _, _, _, _, e => by simp at e
  | v :: W, m :: ls, 0, u, l, _, e1, e2 => by
    simp only [List.getElem?_cons_zero, Option.some.injEq] at e1 e2
    subst e1 e2
    exact valV_pos rfl
  | v :: W, m :: ls, i + 1, u, l, nd, e1, e2 => by
    simp only [List.getElem?_cons_succ] at e1 e2
    have n := List.nodup_cons.mp nd
    refine (valV_neg (p := (keyOfP v, V.ref m)) fun z => ?_).trans (valT n.2 e1 e2)
    exact n.1 (keyOfP_inj z ▸ List.mem_of_getElem? e1)
/-- the pairs of which the dict is made -/
def mkL : List (Int × Int) → List Addr → List Addr → List Addr → List DPair
  | u :: W, b :: bs, t :: ts, l :: ls => ⟨t, keyOfP u, b, .ref l⟩ :: mkL W bs ts ls
  | _, _, _, _ => []
theorem mkL_at : ∀ {W : List (Int × Int)} {bs ts ls : List Addr}, bs.length = W.length → ts.length = W.length → ls.length = W.length → (mkL W bs ts ls).map (fun q => V.ref q.at_) = ts.map V.ref
  | [], [], [], [], _, _, _ => rfl
  | u :: W, b :: bs, t :: ts, l :: ls, h1, h2, h3 => by
    simp only [mkL, List.map_cons]
    rw [mkL_at (by simpa using h1) (by simpa using h2) (by simpa using h3)]
theorem mkL_dt : ∀ {W : List (Int × Int)} {bs ts ls : List Addr}, bs.length = W.length → ts.length = W.length → ls.length = W.length → (mkL W bs ts ls).map (fun q => (q.key, q.val)) = dtOf W ls
  | [], [], [], [], _, _, _ => rfl
  | u :: W, b :: bs, t :: ts, l :: ls, h1, h2, h3 => by
    simp only [mkL, dtOf, List.map_cons]
    rw [mkL_dt (by simpa using h1) (by simpa using h2) (by simpa using h3)]
theorem mkL_key : ∀ {W : List (Int × Int)} {bs ts ls : List Addr}, bs.length = W.length → ts.length = W.length → ls.length = W.length → (mkL W bs ts ls).map (fun q => q.key) = W.map keyOfP
  | [], [], [], [], _, _, _ => rfl
  | u :: W, b :: bs, t :: ts, l :: ls, h1, h2, h3 => by
    simp only [mkL, List.map_cons]
    rw [mkL_key (by simpa using h1) (by simpa using h2) (by simpa using h3)]
theorem mkL_mem : ∀ {W : List (Int × Int)} {bs ts ls : List Addr} {q : DPair}, q ∈ mkL W bs ts ls → ∃ (j : Nat) (u : Int × Int) (b t l : Addr), W[j]? = some u ∧ bs[j]? = some b ∧ ts[j]? = some t ∧ ls[j]? = some l ∧ q = ⟨t, keyOfP u, b, .ref l⟩
  | u :: W, b :: bs, t :: ts, l :: ls, q, h => by
    simp only [mkL, List.mem_cons] at h
    rcases h with rfl | h
    · exact ⟨0, u, b, t, l, rfl, rfl, rfl, rfl, rfl⟩
    · obtain ⟨j, u', b', t', l', h1, h2, h3, h4, h5⟩ := mkL_mem h
      exact ⟨j + 1, u', b', t', l', h1, h2, h3, h4, h5⟩
  | [], _, _, _, _, h => by simp [mkL] at h
  | _ :: _, [], _, _, _, h => by simp [mkL] at h
  | _ :: _, _ :: _, [], _, _, h => by simp [mkL] at h
  | _ :: _, _ :: _, _ :: _, [], _, h => by simp [mkL] at h
theorem rg_upto (n : Nat) : rgV 0 (n : Int) = (upto n).map V.int := by
  unfold rgV upto
  rw [List.map_map, Int.sub_zero, Int.toNat_natCast]
  refine List.map_congr_left fun i _ => ?_
  show V.int (0 + ((i : Nat) : Int)) = V.int ((i : Nat) : Int)
  rw [Int.zero_add]
theorem isweb_len49 {m : Int} {ws : List (Int × Int)} (h : IsWeb m ws) : ws.length ≤ 49 := by
  have hn : (ws.map fun u => (u.1 * 7 + u.2).toNat).Nodup := by
    have : (ws.map fun u => (u.1 * 7 + u.2).toNat).Pairwise (· < ·) := by
      rw [List.pairwise_map]
      refine List.Pairwise.imp_of_mem (fun {u v} hu hv huv => ?_) h.asc
      have h1 := h.mem u hu
      have h2 := h.mem v hv
      have := h.hi
      unfold ltP at huv
      omega
    exact this.imp fun h => Nat.ne_of_lt h
  have := List.Nodup.length_le_of_subset (l₂ := List.range 49) hn fun k hk => by
    obtain ⟨u, hu, rfl⟩ := List.mem_map.mp hk
    have h1 := h.mem u hu
    have := h.hi
    rw [List.mem_range]
    omega
  simpa using this
theorem web_nodup {m : Int} {W : List (Int × Int)} (h : IsWeb m W) : W.Nodup := h.asc.imp fun {a b} q e => by
  subst e
  rcases q with q | q <;> omega
/-- where the lists of a run are -/
structure RanA where
  dl : Addr
  lf : Addr
  st : Addr
  ld : Addr
  rs : List Addr
  ls : List Addr
structure RanN (H : Hp) (A : RanA) : Prop where
  dl : H A.dl = none
  lf : H A.lf = none
  st : H A.st = none
  ld : H A.ld = none
  rs : ∀ l ∈ A.rs, H l = none
  ls : ∀ l ∈ A.ls, H l = none
  n1 : A.dl ≠ A.lf
  n2 : A.dl ≠ A.st
  n3 : A.dl ≠ A.ld
  n4 : A.dl ∉ A.rs
  n5 : A.dl ∉ A.ls
  n6 : A.lf ≠ A.st
  n7 : A.lf ≠ A.ld
  n8 : A.lf ∉ A.rs
  n9 : A.lf ∉ A.ls
  n10 : A.st ≠ A.ld
  n11 : A.st ∉ A.rs
  n12 : A.st ∉ A.ls
  n13 : A.ld ∉ A.rs
  n14 : A.ld ∉ A.ls
  n15 : A.rs.Nodup
  n16 : A.ls.Nodup
  n17 : ∀ l ∈ A.rs, l ∉ A.ls
/-- lists of ints at these places -/
def Lists (H : Hp) (as : List Addr) (ns : List (List Int)) : Prop := as.length = ns.length ∧ ∀ (i : Nat) (a : Addr) (l : List Int), as[i]? = some a → ns[i]? = some l → H a = some (.lst (l.map V.int))
theorem Lists.mono {H H' : Hp} {as : List Addr} {ns : List (List Int)} (h : Lists H as ns) (k : ∀ a ∈ as, ∀ u, H a = some u → H' a = some u) : Lists H' as ns := ⟨h.1, fun i a l e1 e2 => k a (List.mem_of_getElem? e1) _ (h.2 i a l e1 e2)⟩
theorem Lists.set {H : Hp} {as : List Addr} {ns : List (List Int)} (h : Lists H as ns) (nd : as.Nodup) {x : Nat} {a : Addr} (ha : as[x]? = some a) (m : List Int) : Lists (upd H a (.lst (m.map V.int))) as (ns.set x m) := by
  refine ⟨by rw [List.length_set]; exact h.1, fun i b l e1 e2 => ?_⟩
  by_cases c : i = x
  · subst c
    rw [ha] at e1
    cases e1
    rw [List.getElem?_set_self (by rw [← h.1]; exact (List.getElem?_eq_some_iff.mp ha).1)] at e2
    cases e2
    exact upd_same
  · rw [List.getElem?_set_ne (fun z => c z.symm)] at e2
    have ne : b ≠ a := fun z => by
      subst z
      exact c (nd_ix nd e1 ha)
    rw [upd_ne ne]
    exact h.2 i b l e1 e2
/-- what they hold -/
structure RanS (W : List (Int × Int)) (A : RanA) (H : Hp) (ds : List (List Int)) (left : List Int) (lt : List (List Int)) (sv : List V) : Prop where
  dl : H A.dl = some (.lst (A.rs.map V.ref))
  lf : H A.lf = some (.lst (left.map V.int))
  st : H A.st = some (.lst sv)
  ld : H A.ld = some (.dT (dtOf W A.ls))
  rs : Lists H A.rs ds
  ls : Lists H A.ls lt
section
variable {W : List (Int × Int)} {A : RanA} {H H1 H2 : Hp} {ds lt : List (List Int)} {left : List Int} {sv : List V} {hd c : Addr}
theorem RanS.g (r : RanS W A H1 ds left lt sv) (N : RanN H A) (hh : Hand H hd c) (g : G (some (hd, c)) H1 H2) : RanS W A H2 ds left lt sv := by
  have off : ∀ a, H a = none → ∀ u, H1 a = some u → H2 a = some u := fun a n u e => g.keep a u (off_new hh n) e
  exact ⟨off _ N.dl _ r.dl, off _ N.lf _ r.lf, off _ N.st _ r.st, off _ N.ld _ r.ld, r.rs.mono fun a m => off a (N.rs a m), r.ls.mono fun a m => off a (N.ls a m)⟩
theorem ne_mem {a b : Addr} {l : List Addr} (h : a ∉ l) (m : b ∈ l) : b ≠ a := fun e => h (e ▸ m)
theorem RanS.left' (r : RanS W A H1 ds left lt sv) (N : RanN H A) (left' : List Int) : RanS W A (upd H1 A.lf (.lst (left'.map V.int))) ds left' lt sv :=
  ⟨by rw [upd_ne N.n1]; exact r.dl, upd_same, by rw [upd_ne N.n6.symm]; exact r.st, by rw [upd_ne N.n7.symm]; exact r.ld, r.rs.mono fun a m u e => by rw [upd_ne (ne_mem N.n8 m)]; exact e, r.ls.mono fun a m u e => by rw [upd_ne (ne_mem N.n9 m)]; exact e⟩
theorem RanS.step' (r : RanS W A H1 ds left lt sv) (N : RanN H A) (sv' : List V) : RanS W A (upd H1 A.st (.lst sv')) ds left lt sv' :=
  ⟨by rw [upd_ne N.n2]; exact r.dl, by rw [upd_ne N.n6]; exact r.lf, upd_same, by rw [upd_ne N.n10.symm]; exact r.ld, r.rs.mono fun a m u e => by rw [upd_ne (ne_mem N.n11 m)]; exact e, r.ls.mono fun a m u e => by rw [upd_ne (ne_mem N.n12 m)]; exact e⟩
theorem RanS.dia' (r : RanS W A H1 ds left lt sv) (N : RanN H A) {x : Nat} {l : Addr} (hl : A.rs[x]? = some l) (d : List Int) : RanS W A (upd H1 l (.lst (d.map V.int))) (ds.set x d) left lt sv := by
  have m := List.mem_of_getElem? hl
  exact ⟨by rw [upd_ne (ne_mem N.n4 m).symm]; exact r.dl, by rw [upd_ne (ne_mem N.n8 m).symm]; exact r.lf, by rw [upd_ne (ne_mem N.n11 m).symm]; exact r.st, by rw [upd_ne (ne_mem N.n13 m).symm]; exact r.ld, r.rs.set N.n15 hl d, r.ls.mono fun a ma u e => by rw [upd_ne (fun (z : a = l) => N.n17 l m (z ▸ ma))]; exact e⟩
theorem RanS.let' (r : RanS W A H1 ds left lt sv) (N : RanN H A) {j : Nat} {l : Addr} (hl : A.ls[j]? = some l) (d : List Int) : RanS W A (upd H1 l (.lst (d.map V.int))) ds left (lt.set j d) sv := by
  have m := List.mem_of_getElem? hl
  exact ⟨by rw [upd_ne (ne_mem N.n5 m).symm]; exact r.dl, by rw [upd_ne (ne_mem N.n9 m).symm]; exact r.lf, by rw [upd_ne (ne_mem N.n12 m).symm]; exact r.st, by rw [upd_ne (ne_mem N.n14 m).symm]; exact r.ld, r.rs.mono fun a ma u e => by rw [upd_ne (fun (z : a = l) => N.n17 a ma (z ▸ m))]; exact e, r.ls.set N.n16 hl d⟩
end
/-- what is true behind i turns -/
structure RanT (n : Nat) (ws : List Int) (most : Int) (i b : Nat) (ds : List (List Int)) (left : List Int) (lt : List (List Int)) (sv : List V) (more : Int) : Prop where
  ld : ds.length = n
  nd : ∀ d ∈ ds, d.Nodup
  rng : ∀ d ∈ ds, ∀ p ∈ d, 0 ≤ p ∧ p < (ws.length : Int)
  lr : ∀ p ∈ left, 0 ≤ p ∧ p < (ws.length : Int)
  tr : ∀ l ∈ lt, ∀ p ∈ l, 0 ≤ p ∧ p < (ws.length : Int)
  cnt : (i : Int) = ((ws.length : Int) - (left.length : Int)) + more
  ll : left.length ≤ ws.length
  m0 : 0 ≤ more
  mm : more ≤ most
  sl : sv.length ≤ i
  tl : ∀ l ∈ lt, l.length ≤ b
def Own (ws : List Int) (ds : List (List Int)) (left : List Int) (o : Option (Int × Int)) : Prop := ∀ (p : Nat) (w : Int) (d : List Int), ws[p]? = some w → ds[w.toNat]? = some d → (p : Int) ∈ d ∨ (p : Int) ∈ left ∨ o = some ((p : Int), w)
theorem mem_erase {left : List Int} {r : Nat} (h : r < left.length) {p : Int} (m : p ∈ left) : p = left[r] ∨ p ∈ left.eraseIdx r := by
  obtain ⟨i, hi⟩ := List.getElem?_of_mem m
  by_cases c : i = r
  · subst c
    exact .inl (by rw [List.getElem?_eq_getElem h] at hi; exact (Option.some.inj hi).symm)
  · exact .inr (List.mem_eraseIdx_iff_getElem?.mpr ⟨i, c, hi⟩)
theorem Own.put {ws : List Int} {ds : List (List Int)} {left : List Int} (h : Own ws ds left none) {r : Nat} (hr : r < left.length) {x : Int} (hx : ws[left[r].toNat]? = some x) (h0 : 0 ≤ left[r]) : Own ws ds (left.eraseIdx r) (some (left[r], x)) := fun p w d e1 e2 => by
  rcases h p w d e1 e2 with q | q | q
  · exact .inl q
  · rcases mem_erase hr q with z | z
    · refine .inr (.inr ?_)
      have e : left[r].toNat = p := by omega
      rw [e, e1] at hx
      rw [← z, Option.some.inj hx]
    · exact .inr (.inl z)
  · cases q
theorem Own.wk {ws : List Int} {ds : List (List Int)} {left : List Int} (h : Own ws ds left none) (o : Option (Int × Int)) : Own ws ds left o := fun p w d e1 e2 => by
  rcases h p w d e1 e2 with q | q | q
  · exact .inl q
  · exact .inr (.inl q)
  · cases q
theorem Own.had {ws : List Int} {ds : List (List Int)} {left : List Int} {put x : Int} (h : Own ws ds left (some (put, x))) {d : List Int} (hd : ds[x.toNat]? = some d) (hp : put ∈ d) : Own ws ds left none := fun p w d' e1 e2 => by
  rcases h p w d' e1 e2 with q | q | q
  · exact .inl q
  · exact .inr (.inl q)
  · cases q
    rw [hd] at e2
    cases e2
    exact .inl hp
theorem Own.app {ws : List Int} {ds : List (List Int)} {left : List Int} {put x : Int} (h : Own ws ds left (some (put, x))) {d : List Int} (hd : ds[x.toNat]? = some d) : Own ws (ds.set x.toNat (d ++ [put])) left none := fun p w d' e1 e2 => by
  rw [List.getElem?_set] at e2
  split at e2
  · rename_i c
    split at e2
    · cases e2
      rcases h p w d e1 (by rw [← c]; exact hd) with q | q | q
      · exact .inl (List.mem_append_left _ q)
      · exact .inr (.inl q)
      · cases q
        exact .inl (List.mem_append_right _ (List.mem_singleton.mpr rfl))
    · cases e2
  · rename_i c
    rcases h p w d' e1 e2 with q | q | q
    · exact .inl q
    · exact .inr (.inl q)
    · cases q
      exact absurd rfl c
theorem mem_set_list {α : Type} {l : List α} {i : Nat} {a b : α} (h : b ∈ l.set i a) : b ∈ l ∨ b = a := List.mem_or_eq_of_mem_set h
theorem ran_rec {n : Nat} {ws : List Int} {most : Int} {i b : Nat} {ds lt : List (List Int)} {sv : List V} {more : Int} (t : RanT n ws most i b ds [] lt sv more) (o : Own ws ds [] none) (n1 : 1 ≤ n) (n7 : n ≤ 7) (p30 : ws.length ≤ 30) (hws : ∀ w ∈ ws, 0 ≤ w ∧ w < (n : Int)) : IsRec ws ds :=
  ⟨by rw [t.ld]; exact n1, by rw [t.ld]; exact n7, p30, fun w hw => by rw [t.ld]; exact hws w hw, t.nd, t.rng, fun p w d e1 e2 => by
    rcases o p w d e1 e2 with q | q | q
    · exact q
    · cases q
    · cases q⟩
/-- wires out of all wires, as data -/
theorem ready_dp {K : PySem.W.Frag} {H : Hp} {bs : List Addr} {W : List (Int × Int)} (tup : TupAll H bs W) : ∀ {xs : List V}, (∀ v ∈ xs, ∃ (j : Nat) (b : Addr), v = .ref b ∧ bs[j]? = some b) → ∃ us : List (Int × Int), us.length = xs.length ∧ DpAll K H xs (us.map dP)
  | [], _ => ⟨[], rfl, .nil⟩
  | v :: xs, h => by
    obtain ⟨us, e, r⟩ := ready_dp (K := K) tup fun v hv => h v (List.mem_cons_of_mem _ hv)
    obtain ⟨j, b, rfl, hb⟩ := h v List.mem_cons_self
    have lj := (List.getElem?_eq_some_iff.mp hb).1
    have lw : j < W.length := by rw [← tup.1]; exact lj
    have hw : W[j]? = some W[j] := List.getElem?_eq_getElem lw
    exact ⟨W[j] :: us, by simp [e], .cons (dp_ofP (SqT.of (tup.2 j b _ hb hw))) r⟩
theorem sh_pairsL (us : List (Int × Int)) : SeqAt.shaped (.list (us.map dP)) = true := sh_of (by
    rw [PyData.canLay0]
    exact canAll fun d h => by
      obtain ⟨n, _, rfl⟩ := List.mem_map.mp h
      exact can_dP n) (by
    rw [PyData.depth]
    have := depAll (n := 1) (ds := us.map dP) fun d h => by
      obtain ⟨n, _, rfl⟩ := List.mem_map.mp h
      exact dep_dP n
    omega)
theorem not_in {H : Hp} {l : Addr} {as : List Addr} {u : HO} (h : H l = none) (k : ∀ x ∈ as, H x = some u) : l ∉ as := fun m => by rw [k l m] at h; cases h
theorem w_ifM {t : TT} {ts tu : TS} {D : Ends} {σ : L2.St} {H : Hp} (M : Bool → Hp → Prop) (h1 : ∀ N : Bool → Hp → Prop, (∀ b H', M b H' → N b H') → t σ H N) (h2 : ∀ b H', M b H' → if b = true then ts D σ H' else tu D σ H') : tIfS t ts tu D σ H := h1 _ h2
theorem pop_ix {ls : List Int} {r : Int} (r0 : 0 ≤ r) (rl : r.toNat < ls.length) : PySem.seqIndex? r (ls.map V.int).length = some r.toNat := by
  unfold PySem.seqIndex?
  rw [List.length_map]
  have n0 : ¬ r < 0 := by omega
  simp [n0]
  omega
theorem inV_ints (d : List Int) (z : Int) : inV (.int z) (d.map V.int) = decide (z ∈ d) := by
  unfold inV
  rw [List.any_map, Bool.eq_iff_iff, List.any_eq_true, decide_eq_true_iff]
  constructor
  · rintro ⟨y, hy, e⟩
    have e : y = z := by simpa [eqV] using e
    exact e ▸ hy
  · intro h
    exact ⟨_, h, by simp [eqV]⟩
theorem w_dget {td ty : TE} {σ : L2.St} {H : Hp} {Q : VK} (q : td σ H fun x H1 => ty σ H1 fun y H2 => ∃ a v, x = .ref a ∧ DGet H2 a y (some v) ∧ Q v H2) : tDGet td ty σ H Q := q
theorem i_dget {F : V → Prop} {H : Hp} {ld b l : Addr} {W : List (Int × Int)} {ls : List Addr} {j : Nat} {u : Int × Int} (nd : W.Nodup) (h : H ld = some (.dT (dtOf W ls))) (hb : H b = some (.tup [.int u.1, .int u.2])) (hu : W[j]? = some u) (hl : ls[j]? = some l) (q : F (.ref l)) : ∃ (a : Addr) (v : V), V.ref ld = .ref a ∧ DGet H a (.ref b) (some v) ∧ F v :=
  ⟨ld, .ref l, rfl, by rw [← valT nd hu hl]; exact DGet.t h hb, q⟩
theorem eqv_none (us : List (Int × Int)) : PyData.eqv (.list (us.map dP)) (.list []) = decide (us.length = 0) := by
  cases us with
  | nil => rfl
  | cons u us => rfl

end
end Mine
/-! ## K11b -/


namespace Mine
section
variable {P : Program} {w : World} {K : PySem.W.Frag} {mg : Str → Option Value} {base : Heap} {a : Ads}

/-! ### puts and letters led by drawn steps -/
theorem nodup_snoc {α : Type} {l : List α} {a : α} (h : l.Nodup) (n : a ∉ l) : (l ++ [a]).Nodup := List.nodup_append.mpr ⟨h, by simp, fun x hx y hy e => by
  have ey : y = a := by simpa using hy
  subst ey; subst e
  exact n hx⟩
def sp__law_ran (K : PySem.W.Frag) : Sp := fun vs H Q _ => ∃ (hd c : Addr) (n : Int) (wa : Addr) (bs : List Addr) (W : List (Int × Int)) (vp : Addr) (ws : List Int) (most : Int), vs = [.ref hd, .int n, .ref wa, .ref vp, .int most] ∧ Hand H hd c ∧ SqT K H wa (bs.map V.ref) ∧ TupAll H bs W ∧ IsWeb n W ∧ SqT K H vp (ws.map V.int) ∧ ws.length ≤ 30 ∧ (∀ w ∈ ws, 0 ≤ w ∧ w < n) ∧ 0 ≤ most ∧ most ≤ 40 ∧
  ∀ (p dt st : Addr) (ds : List (List Int)) H', G (some (hd, c)) H H' → Hand H' hd c → H' p = some (.tup [.ref dt, .ref st]) → Dia K H' dt ds → ds.length = n.toNat → IsRec ws ds → Q (.ref p) H'
theorem ok__law_ran (T : Txt K mg a) : FnOk P w K mg base CX0 2 a.f__law_ran a.d__law_ran P__law_ran (sp__law_ran K) := by
  refine T.F__law_ran.ok sc__law_ran (fun vs H Q E h => by obtain ⟨hd, c, n, wa, bs, W, vp, ws, most, rfl, _⟩ := h; rfl) (fun cdv A outer s H vs Q E hr h => ?_)
  obtain ⟨hd, c, m, wa, bs, W, vp, ws, most, rfl, hh, hwa, tup, web, hv, p30, hws, mo0, mo40, k⟩ := h
  have G__law_draw : FnOk P w K mg base CX0 1 a.f__law_draw a.d__law_draw P__law_draw sp__law_draw := ok__law_draw T
  have m1 := web.lo
  have m7 := web.hi
  have l49 := isweb_len49 web
  obtain ⟨n, rfl⟩ : ∃ n : Nat, m = (n : Int) := ⟨m.toNat, by omega⟩
  rw [Int.toNat_natCast] at k
  have hhp : ∀ p, some (hd, c) = some p → Hand H p.1 p.2 := fun p e => by cases e; exact hh
  have lb := tup.1
  refine ⟨_, (pss_cons (ps_setLc (i := 5) (own := [("_law_machine", 16)]) (g := (gName 16)) (tt := tYes)  rfl sc__law_ran.nd rfl rfl (sw_true rfl rfl rfl (by decide +kernel)) (pi_range1 rfl T.n_range (pa_cons (pv 1) pa_nil)) (blkOk_by (N := N__law_ran) (sc := defScope s__law_ran) (by decide +kernel)) (fun _ _ _ _ _ => (pg_name (i := 16) sc__law_ran.nd rfl (by first | exact Or.inl rfl | exact Or.inr rfl))) (fun _ _ _ _ _ => pts_nil) (fun _ _ _ _ _ => (pe_lstN pa_nil)))
  (pss_cons (ps_set (i := 7) sc__law_ran.nd rfl (Or.inr rfl) (pe_callTy (call_dictPT rfl hr.units) (by rfl) T.n_dict (by decide +kernel) (pa_cons (pe_lc (own := [("_law_wire", 6)]) (g := (gName 6)) (tt := tYes) rfl sc__law_ran.nd (pi_tup (pv 2)) (blkOk_by (N := N__law_ran) (sc := defScope s__law_ran) (by decide +kernel)) (fun _ _ _ _ _ => (pg_name (i := 6) sc__law_ran.nd rfl (by first | exact Or.inl rfl | exact Or.inr rfl))) (fun _ _ _ _ _ => pts_nil) (fun _ _ _ _ _ => (pe_tupN (pa_cons (pv 6) (pa_cons (pe_lstN pa_nil) pa_nil))))) pa_nil)))
  (pss_cons (ps_set (i := 8) sc__law_ran.nd rfl (Or.inl rfl) (pe_listRgN rfl (by rfl) T.n_list (prg_1 (by rfl) T.n_range (pe_callB call_len_seq (by rfl) T.n_len (by decide +kernel) (pa_cons (pv 3) pa_nil))) (mo_rg1 mo_len)))
  (pss_cons (ps_set (i := 9) sc__law_ran.nd rfl (Or.inl rfl) (pe_lstN pa_nil))
  (pss_cons (ps_set (i := 10) sc__law_ran.nd rfl (Or.inl rfl) pe_int)
  (pss_cons (ps_for PassesOwn.never rfl (pi_range1 rfl T.n_range (pa_cons (pe_op op_add (pe_callB call_len_seq (by rfl) T.n_len (by decide +kernel) (pa_cons (pv 3) pa_nil)) (pv 4)) pa_nil)) (pg_name (i := 11) sc__law_ran.nd rfl (Or.inl rfl))
    (pss_cons (ps_setLc (i := 12) (own := [("_law_wire", 6)]) (g := (gName 6))  rfl sc__law_ran.nd rfl rfl (sw_true rfl rfl rfl (by decide +kernel)) (pi_tup (pv 2)) (blkOk_by (N := N__law_ran) (sc := defScope s__law_ran) (by decide +kernel)) (fun _ _ _ _ _ => (pg_name (i := 6) sc__law_ran.nd rfl (by first | exact Or.inl rfl | exact Or.inr rfl))) (fun _ _ _ _ _ => (pts_one (pt_cmpR op_gt (pe_callB (k_call_len_seq K) (by rfl) T.n_len (by decide +kernel) (pa_cons (pe_dget (hu_of hr) (pv 7) (pv 6) (by first | exact fun _ _ => rfl | rfl | decide)) pa_nil)) pe_int (nomark _)))) (fun _ _ _ _ _ => (pv 6)))
  (pss_cons (ps_if (L2.PW.pt (pw_and (pt_cmpR op_gt (pe_callB call_len_seq (by rfl) T.n_len (by decide +kernel) (pa_cons (pv 8) pa_nil)) pe_int (nomark _)) (pw_and1 (L2.PW.pt (pw_or (pt_cmpR (op_eqD hr.units) (pv 12) (pe_lstN pa_nil) (nomark _)) (pw_or (pt_cmpR op_eq (pv 10) (pv 4) (nomark _)) (pw_or1 (pt_cmpR op_eq (pe_call (G__law_draw) (hr.mono (by omega)) rfl T.m__law_draw T.F__law_draw.kp T.b__law_draw .nil pass0 (pa_cons (pv 0) (pa_cons pe_int pa_nil))) pe_int (nomark _)))))))))
    (pss_cons (ps_set (i := 13) sc__law_ran.nd rfl (Or.inl rfl) (pe_bm PySem.F.plainAttrs_list PySem.F.slot_list_pop PySem.F.type_list_pop mt_popAt (pv 8) (pa_cons (pe_call (G__law_draw) (hr.mono (by omega)) rfl T.m__law_draw T.F__law_draw.kp T.b__law_draw .nil pass0 (pa_cons (pv 0) (pa_cons (pe_callB call_len_seq (by rfl) T.n_len (by decide +kernel) (pa_cons (pv 8) pa_nil)) pa_nil))) pa_nil)))
  (pss_cons (ps_set (i := 14) sc__law_ran.nd rfl (Or.inl rfl) (pe_ix ix_tup (pv 3) (pv 13) (fun _ _ => rfl)))
  (pss_one (ps_expr (pe_bm PySem.F.plainAttrs_list PySem.F.slot_list_append PySem.F.type_list_append mt_append (pv 9) (pa_cons (pe_tupN (pa_cons pe_str (pa_cons (pv 13) pa_nil))) pa_nil))))))
    (pss_one (ps_if (L2.PW.pt (pw_and (pt_cmpR (op_neD hr.units) (pv 12) (pe_lstN pa_nil) (nomark _)) (pw_and1 (pt_cmpR op_lt (pv 10) (pv 4) (nomark _)))))
    (pss_cons (ps_asg (pe_ix ix_list (pv 12) (pe_call (G__law_draw) (hr.mono (by omega)) rfl T.m__law_draw T.F__law_draw.kp T.b__law_draw .nil pass0 (pa_cons (pv 0) (pa_cons (pe_callB call_len_seq (by rfl) T.n_len (by decide +kernel) (pa_cons (pv 12) pa_nil)) pa_nil))) (fun _ _ => rfl)) (pg_tup rfl (pgs_cons (pg_name (i := 15) sc__law_ran.nd rfl (Or.inl rfl)) (pgs_cons (pg_name (i := 14) sc__law_ran.nd rfl (Or.inl rfl)) pgs_nil))))
  (pss_cons (ps_set (i := 13) sc__law_ran.nd rfl (Or.inl rfl) (pe_bm PySem.F.plainAttrs_list PySem.F.slot_list_pop PySem.F.type_list_pop mt_popAt (pe_dget (hu_of hr) (pv 7) (pe_tupN (pa_cons (pv 15) (pa_cons (pv 14) pa_nil))) (fun _ _ => rfl)) (pa_cons pe_int pa_nil)))
  (pss_cons (ps_expr (pe_bm PySem.F.plainAttrs_list PySem.F.slot_list_append PySem.F.type_list_append mt_append (pv 9) (pa_cons (pe_tupN (pa_cons pe_str (pa_cons (pv 15) (pa_cons (pv 14) pa_nil)))) pa_nil)))
  (pss_one (ps_set (i := 10) sc__law_ran.nd rfl (Or.inl rfl) (pe_op op_add (pv 10) pe_int))))))
    (pss_one ps_break))))
  (pss_one (ps_if (pt_cmpR op_notIn_seq (pv 13) (pe_ix ix_list (pv 5) (pv 14) (fun _ _ => rfl)) (by rfl))
    (pss_cons (ps_expr (pe_bm PySem.F.plainAttrs_list PySem.F.slot_list_append PySem.F.type_list_append mt_append (pe_ix ix_list (pv 5) (pv 14) (fun _ _ => rfl)) (pa_cons (pv 13) pa_nil)))
  (pss_one (ps_for PassesOwn.never rfl (pi_tup (pv 2)) (pg_name (i := 6) sc__law_ran.nd rfl (Or.inl rfl))
    (pss_one (ps_if (pt_cmpR op_eq (pe_ix ix_tup (pv 6) pe_int (fun _ _ => rfl)) (pv 14) (nomark _))
    (pss_one (ps_expr (pe_bm PySem.F.plainAttrs_list PySem.F.slot_list_append PySem.F.type_list_append mt_append (pe_dget (hu_of hr) (pv 7) (pv 6) (by first | exact fun _ _ => rfl | rfl | decide)) (pa_cons (pv 13) pa_nil))))
    pss_nil)))))
    pss_nil)))))
  (pss_one (ps_ret (pe_tupN (pa_cons (pe_callTy call_tupleN (by rfl) T.n_tuple (by decide +kernel) (pa_cons (pe_lc (own := [("_law_diary", 17)]) (g := (gName 17)) (tt := tYes) rfl sc__law_ran.nd (pi_list (pv 5)) (blkOk_by (N := N__law_ran) (sc := defScope s__law_ran) (by decide +kernel)) (fun _ _ _ _ _ => (pg_name (i := 17) sc__law_ran.nd rfl (by first | exact Or.inl rfl | exact Or.inr rfl))) (fun _ _ _ _ _ => pts_nil) (fun _ _ _ _ _ => (pe_callTy (k_tupleF K) (by rfl) T.n_tuple (by decide +kernel) (pa_cons (pv 17) pa_nil)))) pa_nil)) (pa_cons (pv 9) pa_nil))))))))))), ?_⟩
  walk_at "ws"
  refine i_rng1 (by omega) (by omega) ?_
  rw [Int.toNat_natCast]
  intro dl hdl
  refine lc_it walk_range (fun i H' => ∃ rs : List Addr, G none H H' ∧ H' dl = some (.lst (rs.map V.ref)) ∧ rs.length = i ∧ rs.Nodup ∧ dl ∉ rs ∧ ∀ l ∈ rs, H l = none ∧ H' l = some (.lst [])) ⟨[], (G.refl).mut hdl (fun _ e => nomatch e), upd_same, rfl, List.nodup_nil, (fun h => nomatch h), (fun _ h => nomatch h)⟩ (fun _ _ _ _ => trivial) ?_ ?_
  · rintro i _ _ H1 hi ⟨rs, g1, h1, lr, nd, ndl, hrs⟩ ⟨rfl, rfl⟩
    walk_at "ws"
    refine ⟨rfl, ?_⟩
    walk_at "ws"
    refine ⟨sz (by simp), fun l H2 hl g2 h2 => ?_⟩
    have nl : l ≠ dl := (ne_of_none h1 hl).symm
    refine ⟨rs.map V.ref, (g2 none).all _ _ h1, Nat.lt_of_le_of_lt (by rw [List.length_map]; omega : (rs.map V.ref).length ≤ 100000) (by decide), rs ++ [l], (g1.trans (g2 none)).mut hdl (fun _ e => nomatch e), by rw [upd_same, List.map_append]; rfl, by rw [List.length_append, lr]; rfl, ?_, ?_, ?_⟩
    · exact nodup_snoc nd fun ha => by
        have := (hrs _ ha).2
        rw [hl] at this; cases this
    · intro h
      rcases List.mem_append.mp h with z | z
      · exact ndl z
      · exact nl (by simpa using z : dl = l).symm
    · intro x hx
      rcases List.mem_append.mp hx with z | z
      · have q := hrs x z
        exact ⟨q.1, by rw [upd_ne (ne_mem ndl z)]; exact (g2 none).all _ _ q.2⟩
      · have e : x = l := by simpa using z
        subst e
        exact ⟨back_none g1 hl, by rw [upd_ne nl]; exact h2⟩
  rintro H1 ⟨rs, g1, h1, lr, nd, ndl, hrs⟩
  have hwa1 := sqT_t g1.tups hwa
  have tup1 := tup.g g1 (fun _ e => nomatch e)
  have hv1 := sqT_t g1.tups hv
  walk_at "ws"
  refine i_tup hwa1 ?_
  intro D hD
  refine lc_it (walk_tup (xs := bs.map V.ref)) (fun i H' => ∃ ts ls : List Addr, G none H1 H' ∧ H' D = some (.lst (ts.map V.ref)) ∧ ts.length = i ∧ ls.length = i ∧ ls.Nodup ∧ (∀ l ∈ ls, H1 l = none ∧ l ≠ D ∧ H' l = some (.lst [])) ∧ ∀ (j : Nat) (t b l : Addr), ts[j]? = some t → bs[j]? = some b → ls[j]? = some l → H' t = some (.tup [.ref b, .ref l])) ⟨[], [], (G.refl).mut hD (fun _ e => nomatch e), upd_same, rfl, rfl, List.nodup_nil, (fun _ h => nomatch h), (fun j t b l e => by simp at e)⟩ (fun i H' _ ⟨ts, ls, q, _⟩ => sqT_t q.tups hwa1) ?_ ?_
  · rintro i v _ H2 hi ⟨ts, ls, g2, h2, lt_, ll, ndls, hls, hts⟩ ⟨rfl, hv'⟩
    rw [List.length_map] at hi
    rw [List.getElem?_map] at hv'
    obtain ⟨b, hb, rfl⟩ := Option.map_eq_some_iff.mp hv'
    walk_at "ws"
    refine ⟨rfl, ?_⟩
    walk_at "ws"
    refine ⟨sz (by simp), fun l H3 hl g3 h3 => ?_⟩
    walk_at "ws"
    refine ⟨sz (by simp), fun t H4 ht g4 h4 => ?_⟩
    have g24 : G none H2 H4 := (g3 none).trans (g4 none)
    have h4D := g24.all _ _ h2
    have h4l := (g4 none).all _ _ h3
    have nl : l ≠ D := (ne_of_none h2 hl).symm
    have tD : t ≠ D := (ne_of_none ((g3 none).all _ _ h2) ht).symm
    refine ⟨ts.map V.ref, h4D, Nat.lt_of_le_of_lt (by rw [List.length_map]; omega : (ts.map V.ref).length ≤ 100000) (by decide), ts ++ [t], ls ++ [l], (g2.trans g24).mut hD (fun _ e => nomatch e), by rw [upd_same, List.map_append]; rfl, by rw [List.length_append, lt_]; rfl, by rw [List.length_append, ll]; rfl, ?_, ?_, ?_⟩
    · exact nodup_snoc ndls fun ha => by
        have := (hls _ ha).2.2
        rw [hl] at this; cases this
    · intro x hx
      rcases List.mem_append.mp hx with z | z
      · have q := hls x z
        exact ⟨q.1, q.2.1, by rw [upd_ne q.2.1]; exact g24.all _ _ q.2.2⟩
      · have e : x = l := by simpa using z
        subst e
        exact ⟨back_none g2 hl, nl, by rw [upd_ne nl]; exact h4l⟩
    · intro j t' b' l' e1 e2 e3
      by_cases cj : j < i
      · rw [List.getElem?_append_left (by omega)] at e1 e3
        have q := hts j t' b' l' e1 e2 e3
        rw [upd_ne (ne_of q h2 (by intro z; cases z))]
        exact g24.all _ _ q
      · have ej : j = i := by
          have := (List.getElem?_eq_some_iff.mp e1).1
          rw [List.length_append, lt_, List.length_singleton] at this
          omega
        subst ej
        rw [List.getElem?_append_right (by omega), lt_, Nat.sub_self] at e1
        rw [List.getElem?_append_right (by omega), ll, Nat.sub_self] at e3
        rw [hb] at e2
        cases e1; cases e2; cases e3
        rw [upd_ne tD]
        exact h4
  rintro H2 ⟨ts, ls, g2, h2, lt_, ll, ndls, hls, hts⟩
  rw [List.length_map] at lt_ ll
  have tup2 := tup1.g g2 (fun _ e => nomatch e)
  walk_at "ws"
  refine ⟨D, mkL W bs ts ls, rfl, by rw [mkL_at lb (by omega) (by omega)]; exact h2, fun q hq => ?_, ?_, fun ld H3 hld g3 h3 => ?_⟩
  · obtain ⟨j, u, b, t, l, e1, e2, e3, e4, rfl⟩ := mkL_mem hq
    exact ⟨hts j t b l e3 e2 e4, tup2.2 j b u e2 e1⟩
  · rw [mkL_key lb (by omega) (by omega)]
    exact List.pairwise_map.mpr ((web_nodup web).imp fun h e => h (keyOfP_inj e))
  rw [mkL_dt lb (by omega) (by omega)] at h3
  walk_at "ws"
  refine w_lstRg (w_rg1 ?_)
  walk_at "ws"
  have hv3 := sqT_t (g2.trans (g3 none)).tups hv1
  refine ⟨vp, _, rfl, .inr hv3, _, rfl, ?_⟩
  rw [List.length_map]
  refine ⟨RgOk.of_le (by decide) (by omega) (by decide) (by omega), fun lf H4 hlf g4 h4 => ?_⟩
  rw [rg_upto] at h4
  walk_at "ws"
  refine ⟨sz (by simp), fun st H5 hst g5 h5 => ?_⟩
  have g34 := g4 none
  have g45 := g5 none
  have g13 : G none H1 H3 := g2.trans (g3 none)
  have g35 := g34.trans g45
  have g25 := (g3 none).trans g35
  have g15 := g13.trans g35
  have g05 := g1.trans g15
  have h2dl := g2.all _ _ h1
  have h2rs : ∀ l ∈ rs, H2 l = some (.lst []) := fun l hl => g2.all _ _ (hrs l hl).2
  have h3dl := (g3 none).all _ _ h2dl
  have h3rs : ∀ l ∈ rs, H3 l = some (.lst []) := fun l hl => (g3 none).all _ _ (h2rs l hl)
  have h3ls : ∀ l ∈ ls, H3 l = some (.lst []) := fun l hl => (g3 none).all _ _ (hls l hl).2.2
  have N : RanN H ⟨dl, lf, st, ld, rs, ls⟩ := ⟨hdl, back_none (g1.trans g13) hlf, back_none ((g1.trans g13).trans g34) hst, back_none (g1.trans g2) hld, fun l hl => (hrs l hl).1, fun l hl => back_none g1 (hls l hl).1,
    ne_of_none h3dl hlf, ne_of_none (g34.all _ _ h3dl) hst, ne_of_none h2dl hld, ndl, (fun hl => ne_of_none h1 (hls _ hl).1 rfl),
    ne_of_none h4 hst, (ne_of_none h3 hlf).symm, not_in hlf h3rs, not_in hlf h3ls,
    (ne_of_none (g34.all _ _ h3) hst).symm, not_in hst (fun l hl => g34.all _ _ (h3rs l hl)), not_in hst (fun l hl => g34.all _ _ (h3ls l hl)),
    not_in hld h2rs, not_in hld (fun l hl => (hls l hl).2.2), nd, ndls, (fun l hl hl2 => ne_of_none (hrs l hl).2 (hls l hl2).1 rfl)⟩
  have nil_at : ∀ (as : List Addr), (∀ l ∈ as, H5 l = some (.lst [])) → Lists H5 as (as.map fun _ => []) := fun as h => ⟨by rw [List.length_map], fun i a l e1 e2 => by
    rw [List.getElem?_map, e1] at e2
    cases e2
    exact h a (List.mem_of_getElem? e1)⟩
  have S5 : RanS W ⟨dl, lf, st, ld, rs, ls⟩ H5 (rs.map fun _ => []) (upto ws.length) (ls.map fun _ => []) [] := ⟨g35.all _ _ h3dl, g45.all _ _ h4, h5, g35.all _ _ h3, nil_at rs fun l hl => g35.all _ _ (h3rs l hl), nil_at ls fun l hl => g35.all _ _ (h3ls l hl)⟩
  have T5 : RanT n ws most 0 0 (rs.map fun _ => []) (upto ws.length) (ls.map fun _ => []) [] 0 := by
    have lu : (upto ws.length).length = ws.length := by unfold upto; simp
    refine ⟨by rw [List.length_map]; exact lr, fun d hd' => ?_, fun d hd' p hp => ?_, fun p hp => ?_, fun l hl p hp => ?_, by rw [lu]; simp, by rw [lu]; exact Nat.le_refl _, Int.le_refl _, mo0, Nat.le_refl _, fun l hl => ?_⟩
    · obtain ⟨_, _, rfl⟩ := List.mem_map.mp hd'; exact List.nodup_nil
    · obtain ⟨_, _, rfl⟩ := List.mem_map.mp hd'; exact nomatch hp
    · unfold upto at hp
      obtain ⟨i, hi, rfl⟩ := List.mem_map.mp hp
      have := List.mem_range.mp hi
      omega
    · obtain ⟨_, _, rfl⟩ := List.mem_map.mp hl; exact nomatch hp
    · obtain ⟨_, _, rfl⟩ := List.mem_map.mp hl; exact Nat.le_refl _
  have O5 : Own ws (rs.map fun _ => []) (upto ws.length) none := fun p w d e1 e2 => .inr (.inl (by
    have := (List.getElem?_eq_some_iff.mp e1).1
    unfold upto
    exact List.mem_map.mpr ⟨p, List.mem_range.mpr this, rfl⟩))
  have g5' : G (some (hd, c)) H H5 := g05.up
  have llW : ls.length = W.length := by omega
  clear h3rs h3ls h2rs h2dl h3dl h5 h4 h3 hts hls h2 hrs h1 g25 g35 g45 g34 g5 g4 g3 hst hlf hld hwa1 tup1 hv1 tup2 hv3 g15 g13 g2 g1 ndls nd nil_at g05 ndl lt_ hD hdl
  walk_at "wn"
  dsimp only
  refine w_seq ?_
  walk_at "wn"
  dsimp only
  refine w_seqM (fun σ H' => ∃ (u6 : Option V) (more : Int) (u11 u12 u13 u14 u15 u16 u17 : Option V) (ds lt : List (List Int)) (sv : List V), σ = [some (.ref hd), some (.int (n : Int)), some (.ref wa), some (.ref vp), some (.int most), some (.ref dl), u6, some (.ref ld), some (.ref lf), some (.ref st), some (.int more), u11, u12, u13, u14, u15, u16, u17] ∧ G (some (hd, c)) H H' ∧ RanS W ⟨dl, lf, st, ld, rs, ls⟩ H' ds [] lt sv ∧ (∃ i b, RanT n ws most i b ds [] lt sv more) ∧ Own ws ds [] none) (fun N1 kN1 => ?_) ?_
  · walk_at "ws"
    have hv5 := sqT_t g5'.tups hv
    refine ⟨vp, _, rfl, .inr hv5, ?_⟩
    walk_at "ws"
    rw [List.length_map]
    refine i_rng1 (by omega) (by omega) ?_
    refine for_it walk_range (fun i σ H' => ∃ (u6 : Option V) (more : Int) (u11 u12 u13 u14 u15 u16 u17 : Option V) (ds : List (List Int)) (left : List Int) (lt : List (List Int)) (sv : List V), σ = [some (.ref hd), some (.int (n : Int)), some (.ref wa), some (.ref vp), some (.int most), some (.ref dl), u6, some (.ref ld), some (.ref lf), some (.ref st), some (.int more), u11, u12, u13, u14, u15, u16, u17] ∧ G (some (hd, c)) H H' ∧ RanS W ⟨dl, lf, st, ld, rs, ls⟩ H' ds left lt sv ∧ RanT n ws most i i ds left lt sv more ∧ Own ws ds left none) ⟨_, 0, _, _, _, _, _, _, _, _, _, _, _, rfl, g5', S5, T5, O5⟩ (fun _ _ _ _ _ => trivial) ?_ ?_
    · clear S5 T5 O5 g5' hv5
      rintro i _ σ _ H6 hi ⟨u6, more, u11, u12, u13, u14, u15, u16, u17, ds, left, lt, sv, rfl, g6, S6, T6, O6⟩ ⟨rfl, rfl⟩
      have hh6 : Hand H6 hd c := g6.hand (hd, c) rfl hh
      have hwa6 := sqT_t g6.tups hwa
      have hv6 := sqT_t g6.tups hv
      have tup6 := tup.g g6 hhp
      have lls : ls.length = lt.length := S6.ls.1
      walk_at "ws"
      refine i_tup hwa6 ?_
      intro R hR
      refine lc_it (walk_tup (xs := bs.map V.ref)) (fun i H' => ∃ xs : List V, G none H6 H' ∧ H' R = some (.lst xs) ∧ xs.length ≤ i ∧ ∀ v ∈ xs, ∃ (j : Nat) (b : Addr) (l : List Int), v = .ref b ∧ bs[j]? = some b ∧ lt[j]? = some l ∧ l ≠ []) ⟨[], (G.refl).mut hR (fun _ e => nomatch e), upd_same, Nat.le_refl _, (fun _ h => nomatch h)⟩ (fun i H' _ ⟨_, q, _⟩ => sqT_t q.tups hwa6) ?_ ?_
      · rintro j v _ H7 hj ⟨xs, g7, h7, lx, hxs⟩ ⟨rfl, hv'⟩
        rw [List.length_map] at hj
        rw [List.getElem?_map] at hv'
        obtain ⟨b, hb, rfl⟩ := Option.map_eq_some_iff.mp hv'
        obtain ⟨l, hl⟩ : ∃ l, ls[j]? = some l := ⟨_, List.getElem?_eq_getElem (by omega)⟩
        obtain ⟨q, hq⟩ : ∃ q, lt[j]? = some q := ⟨_, List.getElem?_eq_getElem (by omega)⟩
        obtain ⟨u, hu⟩ : ∃ u, W[j]? = some u := ⟨_, List.getElem?_eq_getElem (by omega)⟩
        walk_at "ws"
        refine ⟨rfl, ?_⟩
        walk_at "ws"
        refine w_dget ?_
        walk_at "ws"
        refine i_dget (web_nodup web) (g7.all _ _ S6.ld) (g7.all _ _ (tup6.2 j b u hb hu)) hu hl ?_
        refine ⟨l, _, rfl, .inl (SqL.of (g7.all _ _ (S6.ls.2 j l q hl hq))), ?_⟩
        walk_at "ws"
        rw [List.length_map]
        refine w_ite (fun e => ?_) (fun e => ?_)
        · walk_at "ws"
          have e' := of_decide_eq_true e
          refine ⟨xs, h7, Nat.lt_of_le_of_lt (by omega : xs.length ≤ 100000) (by decide), xs ++ [.ref b], g7.mut hR (fun _ e => nomatch e), upd_same, by rw [List.length_append, List.length_singleton]; omega, fun v hv => ?_⟩
          rcases List.mem_append.mp hv with z | z
          · exact hxs v z
          · exact ⟨j, b, q, by simpa using z, hb, hq, fun z => by rw [z] at e'; simp at e'⟩
        · exact ⟨xs, g7, h7, by omega, hxs⟩
      rintro H7 ⟨xs, g7, h7, lx, hxs⟩
      rw [List.length_map] at lx
      have S7 := S6.g N hh g7.up
      have g67 : G (some (hd, c)) H6 H7 := g7.up
      have offR : Off (some (hd, c)) R := off_new hh6 hR
      have hh7 : Hand H7 hd c := g67.hand (hd, c) rfl hh6
      have tup7 := tup6.g g67 (fun p e => by cases e; exact hh6)
      have hv7 := sqT_t g67.tups hv6
      have TT := T6
      have ci := T6.cnt
      have cl := T6.ll
      have cm := T6.mm
      have c0 := T6.m0
      walk_at "wn"
      dsimp only
      refine w_seqM (fun σ H' => ∃ (u6 : Option V) (more put x : Int) (u11 u12 u15 u16 u17 : Option V) (ds : List (List Int)) (left : List Int) (lt : List (List Int)) (sv : List V), σ = [some (.ref hd), some (.int (n : Int)), some (.ref wa), some (.ref vp), some (.int most), some (.ref dl), u6, some (.ref ld), some (.ref lf), some (.ref st), some (.int more), u11, u12, some (.int put), some (.int x), u15, u16, u17] ∧ G (some (hd, c)) H H' ∧ RanS W ⟨dl, lf, st, ld, rs, ls⟩ H' ds left lt sv ∧ RanT n ws most (i + 1) i ds left lt sv more ∧ Own ws ds left (some (put, x)) ∧ (0 ≤ put ∧ put < (ws.length : Int)) ∧ (0 ≤ x ∧ x < (n : Int))) (fun N2 kN2 => ?_) ?_
      · refine w_ifM (fun b H' => G (some (hd, c)) H7 H' ∧ (b = true → 0 < left.length) ∧ (b = false → left ≠ [] → xs ≠ [] ∧ more < most)) (fun N3 kN3 => ?_) ?_
        · walk_at "ws"
          refine ⟨lf, _, rfl, .inl (SqL.of S7.lf), ?_⟩
          walk_at "ws"
          rw [List.length_map]
          refine w_ite (fun e => ?_) (fun e => ?_)
          · have e0 : 0 < left.length := by have := of_decide_eq_true e; omega
            walk_at "ws"
            refine ⟨sz (by simp), fun z H8 hz g8 h8 => ?_⟩
            obtain ⟨us, lu, hus⟩ := ready_dp (K := K) (tup7.g (g8 none) (fun _ e => nomatch e)) (xs := xs) fun v hv => by
              obtain ⟨j, b, _, e1, e2, _⟩ := hxs v hv
              exact ⟨j, b, e1, e2⟩
            refine ⟨.list (us.map dP), .list [], .lst (SqL.of ((g8 none).all _ _ h7)) hus, .lst (SqL.of h8) .nil, sh_pairsL us, sh_pairsL [], ?_⟩
            rw [eqv_none]
            walk_at "ws"
            refine w_ite (fun e => ?_) (fun e => ?_)
            · walk_at "ws"
              exact kN3 _ _ ⟨g8 _, fun _ => e0, fun z => nomatch z⟩
            · have nx : xs ≠ [] := fun z => by rw [z] at lu; rw [lu] at e; simp at e
              walk_at "ws"
              refine w_ite (fun e => ?_) (fun e => ?_)
              · walk_at "ws"
                exact kN3 _ _ ⟨g8 _, fun _ => e0, fun z => nomatch z⟩
              · have nm : ¬ more = most := of_decide_eq_false e
                walk_at "ws"
                refine ⟨hd, c, 3, rfl, (g8 (some (hd, c))).hand _ rfl hh7, by decide, by decide, fun r H9 r0 r1 g9 hh9 => ?_⟩
                walk_at "ws"
                exact kN3 _ _ ⟨(g8 _).trans g9, fun _ => e0, fun _ _ => ⟨nx, by omega⟩⟩
          · walk_at "ws"
            refine kN3 _ _ ⟨G.refl, (fun z => nomatch z), fun _ n0 => absurd (List.eq_nil_of_length_eq_zero ?_) n0⟩
            have := of_decide_eq_false e
            omega
        · rintro b H8 ⟨g78, kt, kf⟩
          have g08 := (g6.trans g67).trans g78
          have S8 := S7.g N hh g78
          have hh8 : Hand H8 hd c := g78.hand (hd, c) rfl hh7
          have h8R := g78.keep R _ offR h7
          refine w_ite (fun e => ?_) (fun e => ?_)
          · have ln := kt e
            walk_at "ws"
            refine i_BM S8.lf ?_
            walk_at "ws"
            refine ⟨lf, _, rfl, .inl (SqL.of S8.lf), ?_⟩
            walk_at "ws"
            rw [List.length_map]
            refine ⟨hd, c, (left.length : Int), rfl, hh8, by omega, by omega, fun r H9 r0 r1 g9 hh9 => ?_⟩
            have S9 := S8.g N hh g9
            have rl : r.toNat < left.length := by omega
            have pr := T6.lr _ (List.getElem_mem rl)
            have pl : left[r.toNat].toNat < ws.length := by omega
            obtain ⟨x, hx⟩ : ∃ x, ws[left[r.toNat].toNat]? = some x := ⟨_, List.getElem?_eq_getElem pl⟩
            have xr := hws x (List.mem_of_getElem? hx)
            walk_at "ws"
            refine ⟨lf, left.map V.int, r, r.toNat, .int left[r.toNat], rfl, rfl, S9.lf, by omega, by omega, pop_ix r0 rl, by rw [List.getElem?_map, List.getElem?_eq_getElem rl]; rfl, ?_⟩
            rw [erase_ints]
            have SA := S9.left' N (left.eraseIdx r.toNat)
            have gA := (g08.trans g9).mut (l := lf) (u := .lst ((left.eraseIdx r.toNat).map V.int)) N.lf hhp
            walk_at "ws"
            refine r_ixT (sqT_t gA.tups hv) (v := .int x) (at_of (j := left[r.toNat].toNat) (by omega) (by rw [List.getElem?_map, hx]; rfl)) ?_
            walk_at "ws"
            refine i_BM SA.st ?_
            walk_at "ws"
            refine ⟨sz (by simp), fun t HB ht gB hB => ?_⟩
            have SB := SA.g N hh (gB _)
            have sl := T6.sl
            walk_at "ws"
            refine r_app SB.st (by omega) ?_
            walk_at "ws"
            refine kN2 _ _ ?_
            refine ⟨_, more, _, x, _, _, _, _, _, ds, left.eraseIdx r.toNat, lt, _, rfl, (gA.trans (gB _)).mut N.st hhp, SB.step' N _, ?_, O6.put rl hx pr.1, pr, xr⟩
            have le : (left.eraseIdx r.toNat).length = left.length - 1 := List.length_eraseIdx_of_lt rl
            exact ⟨T6.ld, T6.nd, T6.rng, fun p hp => T6.lr p (List.mem_of_mem_eraseIdx hp), T6.tr, by rw [le]; omega, by rw [le]; omega, T6.m0, T6.mm, by rw [List.length_append, List.length_singleton]; omega, T6.tl⟩
          · have hf := kf e
            refine w_ifM (fun b H' => G (some (hd, c)) H8 H' ∧ (b = true → xs ≠ [] ∧ more < most) ∧ (b = false → ¬ (xs ≠ [] ∧ more < most))) (fun N4 kN4 => ?_) ?_
            · walk_at "ws"
              refine ⟨sz (by simp), fun z H9 hz g9 h9 => ?_⟩
              obtain ⟨us, lu, hus⟩ := ready_dp (K := K) ((tup7.g g78 (fun p e => by cases e; exact hh7)).g (g9 none) (fun _ e => nomatch e)) (xs := xs) fun v hv => by
                obtain ⟨j, b, _, e1, e2, _⟩ := hxs v hv
                exact ⟨j, b, e1, e2⟩
              refine ⟨.list (us.map dP), .list [], .lst (SqL.of ((g9 none).all _ _ h8R)) hus, .lst (SqL.of h9) .nil, sh_pairsL us, sh_pairsL [], ?_⟩
              rw [eqv_none]
              walk_at "ws"
              refine w_ite (fun e => ?_) (fun e => ?_)
              · have nx : xs ≠ [] := fun z => by rw [z] at lu; rw [lu] at e; simp at e
                walk_at "ws"
                by_cases cc : more < most
                · rw [decide_eq_true cc]
                  exact kN4 _ _ ⟨g9 _, fun _ => ⟨nx, cc⟩, fun z => nomatch z⟩
                · rw [decide_eq_false cc]
                  exact kN4 _ _ ⟨g9 _, (fun z => nomatch z), fun _ z => cc z.2⟩
              · have nx : xs = [] := by
                  have : us.length = 0 := by simpa using e
                  exact List.eq_nil_of_length_eq_zero (by omega)
                walk_at "ws"
                exact kN4 _ _ ⟨g9 _, (fun z => nomatch z), fun _ z => z.1 nx⟩
            · rintro b2 H9 ⟨g89, kt2, kf2⟩
              have g09 := g08.trans g89
              have S9 := S8.g N hh g89
              have hh9 : Hand H9 hd c := g89.hand (hd, c) rfl hh8
              have h9R := g89.keep R _ offR h8R
              refine w_ite (fun e => ?_) (fun e => ?_)
              · obtain ⟨nx, mlt⟩ := kt2 e
                have lx0 : 0 < xs.length := List.length_pos_iff.mpr nx
                walk_at "ws"
                refine ⟨R, _, rfl, .inl (SqL.of h9R), ?_⟩
                walk_at "ws"
                refine ⟨hd, c, (xs.length : Int), rfl, hh9, by omega, by omega, fun r HA r0 r1 gA hhA => ?_⟩
                have SA := S9.g N hh gA
                have hAR := gA.keep R _ offR h9R
                have rl : r.toNat < xs.length := by omega
                obtain ⟨j, b, q, ev, hb, hq, nq⟩ := hxs _ (List.getElem_mem rl)
                have gHA := g09.trans gA
                have tupA := tup.g gHA hhp
                obtain ⟨u, hu⟩ : ∃ u, W[j]? = some u := ⟨_, List.getElem?_eq_getElem (by have := (List.getElem?_eq_some_iff.mp hb).1; omega)⟩
                obtain ⟨l, hl⟩ : ∃ l, ls[j]? = some l := ⟨_, List.getElem?_eq_getElem (by have := (List.getElem?_eq_some_iff.mp hb).1; omega)⟩
                have ht := tupA.2 j b u hb hu
                have um := web.mem u (List.mem_of_getElem? hu)
                refine r_ixL (SqL.of hAR) (v := .ref b) (at_of (j := r.toNat) (by omega) (by rw [List.getElem?_eq_getElem rl, ev])) ?_
                refine ⟨b, _, rfl, SqT.of ht, rfl, ?_⟩
                refine ⟨_, _, rfl, ?_⟩
                walk_at "ws"
                refine ⟨_, _, rfl, ?_⟩
                walk_at "ws"
                refine ⟨rfl, ?_⟩
                walk_at "ws"
                refine w_dget ?_
                walk_at "ws"
                refine ⟨sz (by simp), fun t HB ht2 gB hB => ?_⟩
                have SB := SA.g N hh (gB _)
                refine i_dget (web_nodup web) SB.ld hB hu hl ?_
                obtain ⟨p0, q', rfl⟩ : ∃ p0 q', q = p0 :: q' := by
                  cases q with
                  | nil => exact absurd rfl nq
                  | cons p0 q' => exact ⟨p0, q', rfl⟩
                have hlB := SB.ls.2 j l _ hl hq
                refine i_BM hlB ?_
                walk_at "ws"
                refine ⟨l, (p0 :: q').map V.int, 0, 0, .int p0, rfl, rfl, hlB, by decide, by decide, pop_ix (r := 0) (by decide) (by simp), rfl, ?_⟩
                rw [erase_ints]
                have SC := SB.let' N hl ((p0 :: q').eraseIdx 0)
                have gC := ((gHA.trans (gB _)).mut (l := l) (u := .lst (((p0 :: q').eraseIdx 0).map V.int)) (N.ls l (List.mem_of_getElem? hl)) hhp)
                walk_at "ws"
                refine i_BM SC.st ?_
                walk_at "ws"
                refine ⟨sz (by simp), fun t2 HD ht3 gD hD => ?_⟩
                have SD := SC.g N hh (gD _)
                have sl := T6.sl
                walk_at "ws"
                refine r_app SD.st (by omega) ?_
                walk_at "ws"
                refine kN2 _ _ ?_
                have mq := List.mem_of_getElem? hq
                refine ⟨_, more + 1, p0, u.2, _, _, _, _, _, ds, left, lt.set j ((p0 :: q').eraseIdx 0), _, rfl, (gC.trans (gD _)).mut N.st hhp, SD.step' N _, ?_, O6.wk _, T6.tr _ mq p0 List.mem_cons_self, um.2.1⟩
                refine ⟨T6.ld, T6.nd, T6.rng, T6.lr, fun l hl p hp => ?_, by omega, T6.ll, by omega, by omega, by rw [List.length_append, List.length_singleton]; omega, fun l hl => ?_⟩
                · rcases mem_set_list hl with z | z
                  · exact T6.tr l z p hp
                  · rw [z] at hp
                    exact T6.tr _ mq p (List.mem_cons_of_mem _ hp)
                · rcases mem_set_list hl with z | z
                  · exact T6.tl l z
                  · rw [z]
                    have := T6.tl _ mq
                    simp at this ⊢
                    omega
              · have hn := kf2 e
                have l0 : left = [] := Classical.byContradiction fun z => hn (hf z)
                subst l0
                walk_at "ws"
                refine kN1 _ _ ?_
                exact ⟨_, _, _, _, _, _, _, _, _, ds, lt, sv, rfl, g09, S9, ⟨_, _, T6⟩, O6⟩
      · clear hv7 tup7 hh7 offR g67 S7 hxs lx h7 g7 hR lls tup6 hv6 hwa6 hh6 S6 T6 O6 TT ci cl cm c0 g6
        rintro σ H8 ⟨u6, more', put, x, u11, u12, u15, u16, u17, ds', left', lt', sv', rfl, g8, S8, T8, O8, pr, xr⟩
        obtain ⟨x, rfl⟩ : ∃ y : Nat, x = (y : Int) := ⟨x.toNat, by omega⟩
        have ld8 := T8.ld
        have lrs : rs.length = ds'.length := S8.rs.1
        obtain ⟨l, hl⟩ : ∃ l, rs[x]? = some l := ⟨_, List.getElem?_eq_getElem (by omega)⟩
        obtain ⟨d, hd'⟩ : ∃ d, ds'[x]? = some d := ⟨_, List.getElem?_eq_getElem (by omega)⟩
        have hdl := S8.rs.2 x l d hl hd'
        have md := List.mem_of_getElem? hd'
        have dlen := diary_len (T8.nd d md) (T8.rng d md)
        walk_at "ws"
        refine r_ixL (SqL.of S8.dl) (v := .ref l) (at_of (j := x) rfl (by rw [List.getElem?_map, hl]; rfl)) ?_
        refine ⟨l, _, rfl, .inl (SqL.of hdl), rfl, by rw [List.all_map, List.all_eq_true]; intro q _; rfl, ?_⟩
        rw [inV_ints]
        by_cases cp : put ∈ d
        · rw [decide_eq_true cp]
          walk_at "ws"
          refine w_iteN rfl ?_
          walk_at "ws"
          exact ⟨_, _, _, _, _, _, _, _, _, ds', left', lt', sv', rfl, g8, S8, ⟨T8.ld, T8.nd, T8.rng, T8.lr, T8.tr, T8.cnt, T8.ll, T8.m0, T8.mm, T8.sl, fun l hl => Nat.le_succ_of_le (T8.tl l hl)⟩, O8.had (by rw [Int.toNat_natCast]; exact hd') cp⟩
        · rw [decide_eq_false cp]
          walk_at "ws"
          refine w_iteE rfl ?_
          walk_at "ws"
          refine r_ixL (SqL.of S8.dl) (v := .ref l) (at_of (j := x) rfl (by rw [List.getElem?_map, hl]; rfl)) ?_
          refine i_BM hdl ?_
          walk_at "ws"
          refine r_app hdl (by rw [List.length_map]; omega) ?_
          have e1 : d.map V.int ++ [V.int put] = (d ++ [put]).map V.int := by rw [List.map_append]; rfl
          rw [e1]
          have S9 := S8.dia' N hl (d ++ [put])
          have g9 := g8.mut (l := l) (u := .lst ((d ++ [put]).map V.int)) (N.rs l (List.mem_of_getElem? hl)) hhp
          walk_at "ws"
          refine i_tup (sqT_t g9.tups hwa) ?_
          refine for_it (walk_tup (xs := bs.map V.ref)) (fun j σ H' => ∃ (u6 : Option V) (lt2 : List (List Int)), σ = [some (.ref hd), some (.int (n : Int)), some (.ref wa), some (.ref vp), some (.int most), some (.ref dl), u6, some (.ref ld), some (.ref lf), some (.ref st), some (.int more'), u11, u12, some (.int put), some (.int (x : Int)), u15, u16, u17] ∧ G (some (hd, c)) H H' ∧ RanS W ⟨dl, lf, st, ld, rs, ls⟩ H' (ds'.set x (d ++ [put])) left' lt2 sv' ∧ (∀ l ∈ lt2, ∀ p ∈ l, 0 ≤ p ∧ p < (ws.length : Int)) ∧ ∀ (z : Nat) (q : List Int), lt2[z]? = some q → q.length ≤ if z < j then i + 1 else i) ⟨_, lt', rfl, g9, S9, T8.tr, fun z q hq => T8.tl q (List.mem_of_getElem? hq)⟩ (fun _ _ _ _ ⟨_, _, _, q, _⟩ => sqT_t q.tups hwa) ?_ ?_
          · rintro j v σ _ HA hj ⟨u6, lt2, rfl, gA, SA, trA, tlA⟩ ⟨rfl, hv'⟩
            rw [List.length_map] at hj
            rw [List.getElem?_map] at hv'
            obtain ⟨b, hb, rfl⟩ := Option.map_eq_some_iff.mp hv'
            obtain ⟨la, hla⟩ : ∃ l, ls[j]? = some l := ⟨_, List.getElem?_eq_getElem (by omega)⟩
            have lls : ls.length = lt2.length := SA.ls.1
            obtain ⟨q, hq⟩ : ∃ q, lt2[j]? = some q := ⟨_, List.getElem?_eq_getElem (by omega)⟩
            obtain ⟨u, hu⟩ : ∃ u, W[j]? = some u := ⟨_, List.getElem?_eq_getElem (by omega)⟩
            have ht := (tup.g gA hhp).2 j b u hb hu
            have hlA := SA.ls.2 j la q hla hq
            have ql := tlA j q hq
            rw [if_neg (Nat.lt_irrefl j)] at ql
            have i70 : i ≤ 70 := by omega
            walk_at "ws"
            refine r_ixT (SqT.of ht) (v := .int u.1) (at_of (j := 0) rfl rfl) ?_
            walk_at "ws"
            refine w_ite (fun e => ?_) (fun e => ?_)
            · walk_at "ws"
              refine w_dget ?_
              walk_at "ws"
              refine i_dget (web_nodup web) SA.ld ht hu hla ?_
              refine i_BM hlA ?_
              walk_at "ws"
              refine r_app hlA (by rw [List.length_map]; omega) ?_
              have e2 : q.map V.int ++ [V.int put] = (q ++ [put]).map V.int := by rw [List.map_append]; rfl
              rw [e2]
              walk_at "ws"
              refine ⟨_, lt2.set j (q ++ [put]), rfl, gA.mut (N.ls la (List.mem_of_getElem? hla)) hhp, SA.let' N hla (q ++ [put]), fun l hl p hp => ?_, fun z q2 hz => ?_⟩
              · rcases mem_set_list hl with y | y
                · exact trA l y p hp
                · rw [y] at hp
                  rcases List.mem_append.mp hp with y2 | y2
                  · exact trA q (List.mem_of_getElem? hq) p y2
                  · have : p = put := by simpa using y2
                    rw [this]; exact pr
              · by_cases cz : j = z
                · subst cz
                  rw [List.getElem?_set_self (by omega)] at hz
                  cases hz
                  rw [if_pos (Nat.lt_succ_self _), List.length_append, List.length_singleton]
                  omega
                · rw [List.getElem?_set_ne cz] at hz
                  have := tlA z q2 hz
                  split at this <;> split <;> omega
            · walk_at "ws"
              refine ⟨_, lt2, rfl, gA, SA, trA, fun z q2 hz => ?_⟩
              have := tlA z q2 hz
              split at this <;> split <;> omega
          · rintro σ HA ⟨u6, lt2, rfl, gA, SA, trA, tlA⟩
            walk_at "ws"
            refine ⟨_, _, _, _, _, _, _, _, _, _, left', lt2, sv', rfl, gA, SA, ⟨by rw [List.length_set]; exact T8.ld, fun e he => ?_, fun e he p hp => ?_, T8.lr, trA, T8.cnt, T8.ll, T8.m0, T8.mm, T8.sl, fun q hq => ?_⟩, ?_⟩
            · rcases mem_set_list he with y | y
              · exact T8.nd e y
              · rw [y]; exact nodup_snoc (T8.nd d md) cp
            · rcases mem_set_list he with y | y
              · exact T8.rng e y p hp
              · rw [y] at hp
                rcases List.mem_append.mp hp with y2 | y2
                · exact T8.rng d md p y2
                · have : p = put := by simpa using y2
                  rw [this]; exact pr
            · obtain ⟨z, hz⟩ := List.getElem?_of_mem hq
              have := tlA z q hz
              split at this <;> omega
            · have := O8.app (d := d) (by rw [Int.toNat_natCast]; exact hd')
              rw [Int.toNat_natCast] at this
              exact this
    · rintro σ H6 ⟨u6, more, u11, u12, u13, u14, u15, u16, u17, ds, left, lt, sv, rfl, g6, S6, T6, O6⟩
      refine kN1 _ _ ?_
      have cnt := T6.cnt
      have := T6.ll
      have := T6.mm
      have l0 : left = [] := List.eq_nil_of_length_eq_zero (by omega)
      subst l0
      exact ⟨_, _, _, _, _, _, _, _, _, ds, lt, sv, rfl, g6, S6, ⟨_, _, T6⟩, O6⟩
  · clear S5 T5 O5 g5'
    rintro σ H6 ⟨u6, more, u11, u12, u13, u14, u15, u16, u17, ds, lt, sv, rfl, g6, S6, ⟨i, b, T6⟩, O6⟩
    have isr := ran_rec T6 O6 (by omega) (by omega) p30 hws
    have lrs : rs.length = ds.length := S6.rs.1
    have ld6 := T6.ld
    walk_at "ws"
    refine i_list (SqL.of S6.dl) ?_
    intro D hD
    refine lc_it (walk_list (xs := rs.map V.ref)) (fun i H' => ∃ fs : List Addr, G none H6 H' ∧ H' D = some (.lst (fs.map V.ref)) ∧ fs.length = i ∧ ∀ (j : Nat) (f : Addr) (d : List Int), fs[j]? = some f → ds[j]? = some d → FrzT H' f (d.map V.int)) ⟨[], (G.refl).mut hD (fun _ e => nomatch e), upd_same, rfl, (fun j f d e => by simp at e)⟩ (fun i H' _ ⟨_, q, _⟩ => SqL.of (q.all _ _ S6.dl)) ?_ ?_
    · rintro j v _ H7 hj ⟨fs, g7, h7, lfs, hfs⟩ ⟨rfl, hv'⟩
      rw [List.length_map] at hj
      rw [List.getElem?_map] at hv'
      obtain ⟨l, hl, rfl⟩ := Option.map_eq_some_iff.mp hv'
      obtain ⟨d, hd'⟩ : ∃ d, ds[j]? = some d := ⟨_, List.getElem?_eq_getElem (by omega)⟩
      walk_at "ws"
      refine ⟨rfl, ?_⟩
      walk_at "ws"
      refine ⟨l, _, rfl, SqL.of (g7.all _ _ (S6.rs.2 j l d hl hd')), fun f H8 hf g8 h8 => ?_⟩
      have h8D := (g8 none).all _ _ h7
      refine ⟨fs.map V.ref, h8D, Nat.lt_of_le_of_lt (by rw [List.length_map]; omega : (fs.map V.ref).length ≤ 100000) (by decide), fs ++ [f], (g7.trans (g8 none)).mut hD (fun _ e => nomatch e), by rw [upd_same, List.map_append]; rfl, by rw [List.length_append, lfs]; rfl, fun j2 f2 d2 e1 e2 => ?_⟩
      by_cases cj : j2 < fs.length
      · rw [List.getElem?_append_left cj] at e1
        exact FrzT.put ((hfs j2 f2 d2 e1 e2).n (g8 none)) h8D
      · have ej : j2 = j := by
          have := (List.getElem?_eq_some_iff.mp e1).1
          rw [List.length_append, List.length_singleton] at this
          omega
        subst ej
        rw [List.getElem?_append_right (by omega), lfs, Nat.sub_self] at e1
        rw [hd'] at e2
        cases e1; cases e2
        exact FrzT.put h8 h8D
    rintro H7 ⟨fs, g7, h7, lfs, hfs⟩
    rw [List.length_map] at lfs
    walk_at "ws"
    refine ⟨D, _, rfl, .inl ⟨SqL.of h7, fun dt H8 hdt g8 h8 => ?_⟩⟩
    walk_at "ws"
    refine ⟨sz (by simp), fun p H9 hp g9 h9 => ?_⟩
    have g69 := (g7.trans (g8 none)).trans (g9 none)
    have g09 := g6.trans g69.up
    exact k p dt st ds H9 g09 (g09.hand (hd, c) rfl hh) h9 ⟨fs, sqT_t (g9 none).tups (SqT.of h8), by omega, fun j f d e1 e2 => ((hfs j f d e1 e2).n (g8 none)).n (g9 none)⟩ ld6 isr

end
end Mine
/-! ## K12 -/


namespace Mine
section
variable {P : Program} {w : World} {K : PySem.W.Frag} {mg : Str → Option Value} {base : Heap} {a : Ads}

/-! ### a web, writers, diaries -/
def sp__law_parts (K : PySem.W.Frag) : Sp := fun vs H Q _ => ∃ (hd c : Addr) (mm mp : Int), vs = [.ref hd, .int mm, .int mp] ∧ Hand H hd c ∧ 1 ≤ mm ∧ mm ≤ 7 ∧ 0 ≤ mp ∧ mp ≤ 30 ∧
  ∀ (p wa vp dt : Addr) (m : Int) (ws : List Int) (ds : List (List Int)) H', G (some (hd, c)) H H' → Hand H' hd c → H' p = some (.tup [.int m, .ref wa, .ref vp, .ref dt]) → SqT K H' vp (ws.map V.int) → Dia K H' dt ds → ds.length = m.toNat → 1 ≤ m → m ≤ 7 → IsRec ws ds → Q (.ref p) H'
theorem ok__law_parts (T : Txt K mg a) : FnOk P w K mg base CX0 3 a.f__law_parts a.d__law_parts P__law_parts (sp__law_parts K) := by
  refine T.F__law_parts.ok sc__law_parts (fun vs H Q E h => by obtain ⟨hd, c, mm, mp, rfl, _⟩ := h; rfl) (fun cdv A outer s H vs Q E hr h => ?_)
  obtain ⟨hd, c, mm, mp, rfl, hh, mm1, mm7, mp0, mp30, k⟩ := h
  have G__law_draw : FnOk P w K mg base CX0 1 a.f__law_draw a.d__law_draw P__law_draw sp__law_draw := ok__law_draw T
  have G__law_web : FnOk P w K mg base CX0 2 a.f__law_web a.d__law_web P__law_web (sp__law_web K) := ok__law_web T
  have G__law_ran : FnOk P w K mg base CX0 2 a.f__law_ran a.d__law_ran P__law_ran (sp__law_ran K) := ok__law_ran T
  have G__law_bent : FnOk P w K mg base CX0 2 a.f__law_bent a.d__law_bent P__law_bent (sp__law_bent K) := ok__law_bent T
  refine ⟨_, (pss_cons (ps_set (i := 3) sc__law_parts.nd rfl (Or.inr rfl) (pe_op op_add pe_int (pe_call (G__law_draw) (hr.mono (by omega)) rfl T.m__law_draw T.F__law_draw.kp T.b__law_draw .nil pass0 (pa_cons (pv 0) (pa_cons (pv 1) pa_nil)))))
  (pss_cons (ps_set (i := 4) sc__law_parts.nd rfl (Or.inl rfl) (pe_call (G__law_web) (hr.mono (by omega)) rfl T.m__law_web T.F__law_web.kp T.b__law_web .nil pass0 (pa_cons (pv 0) (pa_cons (pv 3) pa_nil))))
  (pss_cons (ps_set (i := 5) sc__law_parts.nd rfl (Or.inl rfl) (pe_callTy call_tupleN (by rfl) T.n_tuple (by decide +kernel) (pa_cons (pe_lc (own := [("_law_put", 8)]) (g := (gName 8)) (tt := tYes) rfl sc__law_parts.nd (pi_range1 rfl T.n_range (pa_cons (pe_call (G__law_draw) (hr.mono (by omega)) rfl T.m__law_draw T.F__law_draw.kp T.b__law_draw .nil pass0 (pa_cons (pv 0) (pa_cons (pe_op op_add (pv 2) pe_int) pa_nil))) pa_nil)) (blkOk_by (N := N__law_parts) (sc := defScope s__law_parts) (by decide +kernel)) (fun _ _ _ _ _ => (pg_name (i := 8) sc__law_parts.nd rfl (by first | exact Or.inl rfl | exact Or.inr rfl))) (fun _ _ _ _ _ => pts_nil) (fun _ _ _ _ _ => (pe_call (G__law_draw) (hr.mono (by omega)) rfl T.m__law_draw T.F__law_draw.kp T.b__law_draw .nil pass0 (pa_cons (pv 0) (pa_cons (pv 3) pa_nil))))) pa_nil)))
  (pss_cons (ps_set (i := 6) sc__law_parts.nd rfl (Or.inl rfl) (pe_ix ix_tup (pe_call (G__law_ran) (hr.mono (by omega)) rfl T.m__law_ran T.F__law_ran.kp T.b__law_ran .nil pass0 (pa_cons (pv 0) (pa_cons (pv 3) (pa_cons (pv 4) (pa_cons (pv 5) (pa_cons (pe_call (G__law_draw) (hr.mono (by omega)) rfl T.m__law_draw T.F__law_draw.kp T.b__law_draw .nil pass0 (pa_cons (pv 0) (pa_cons pe_int pa_nil))) pa_nil)))))) pe_int (fun _ _ => rfl)))
  (pss_cons (ps_for PassesOwn.never rfl (pi_range1 rfl T.n_range (pa_cons (pe_callB (call_max2 rfl) (by rfl) T.n_max (by decide +kernel) (pa_cons pe_int (pa_cons (pe_op op_sub (pe_call (G__law_draw) (hr.mono (by omega)) rfl T.m__law_draw T.F__law_draw.kp T.b__law_draw .nil pass0 (pa_cons (pv 0) (pa_cons pe_int pa_nil))) pe_int) pa_nil))) pa_nil)) (pg_name (i := 7) sc__law_parts.nd rfl (Or.inl rfl))
    (pss_one (ps_set (i := 6) sc__law_parts.nd rfl (Or.inl rfl) (pe_call (G__law_bent) (hr.mono (by omega)) rfl T.m__law_bent T.F__law_bent.kp T.b__law_bent .nil pass0 (pa_cons (pv 0) (pa_cons (pv 5) (pa_cons (pv 6) pa_nil)))))))
  (pss_one (ps_ret (pe_tupN (pa_cons (pv 3) (pa_cons (pv 4) (pa_cons (pv 5) (pa_cons (pv 6) pa_nil)))))))))))), ?_⟩
  walk_at "ws"
  refine ⟨hd, c, mm, rfl, hh, by omega, by omega, fun r H1 r0 r1 g1 hh1 => ?_⟩
  obtain ⟨m, em⟩ : ∃ m : Int, m = 1 + r := ⟨_, rfl⟩
  walk_at "ws"
  rw [← em]
  have m1 : 1 ≤ m := by omega
  have m7 : m ≤ 7 := by omega
  refine ⟨hd, c, m, rfl, hh1, m1, m7, fun wa bs W H2 g2 hh2 hwa tup web => ?_⟩
  walk_at "ws"
  refine ⟨hd, c, _, rfl, hh2, by omega, by omega, fun r2 H3 r20 r21 g3 hh3 => ?_⟩
  have hwa3 := sqT_t g3.tups hwa
  have tup3 := tup.g g3 (fun p e => by cases e; exact hh2)
  walk_at "ws"
  refine i_rng1 (by omega) (by omega) ?_
  intro D hD
  have hh3p : ∀ p, some (hd, c) = some p → Hand H3 p.1 p.2 := fun p e => by cases e; exact hh3
  refine lc_data (K := K) (o := some (hd, c)) walk_range (by omega) hD hh3p (fun i acc _ => ∃ ns : List Int, acc = ns.map PyData.int ∧ (∀ w ∈ ns, 0 ≤ w ∧ w < m) ∧ ns.length ≤ i) (fun _ _ _ _ _ h _ => h) ⟨[], rfl, (fun _ h => nomatch h), Nat.le_refl _⟩ (fun _ _ _ _ _ => trivial) ?_ ?_
  · rintro i _ acc _ H4 hi g4 ⟨ns, rfl, hns, ln⟩ ⟨rfl, rfl⟩ Qy Qn ky kn
    walk_at "ws"
    refine ⟨rfl, ?_⟩
    walk_at "ws"
    refine ⟨hd, c, m, rfl, g4.hand (hd, c) rfl hh3, by omega, by omega, fun w H5 w0 w1 g5 hh5 => ?_⟩
    refine ky _ _ _ g5 (.int w) rfl ⟨ns ++ [w], by rw [List.map_append]; rfl, fun v hv => ?_, by rw [List.length_append, List.length_singleton]; omega⟩
    rcases List.mem_append.mp hv with z | z
    · exact hns v z
    · have e : v = w := by simpa using z
      rw [e]; exact ⟨w0, w1⟩
  rintro _ xs H4 ⟨ws, rfl, hws, lw⟩ g4 hD4 hds _
  obtain rfl := DpAll.of_ints hds
  have hh4 : Hand H4 hd c := g4.hand (hd, c) rfl hh3
  walk_at "ws"
  refine ⟨D, _, rfl, .inl ⟨SqL.of hD4, fun vp H5 hvp g5 h5 => ?_⟩⟩
  have hh5 := (g5 (some (hd, c))).hand _ rfl hh4
  have g35 := g4.trans (g5 _)
  have hwa5 := sqT_t g35.tups hwa3
  have tup5 := tup3.g g35 hh3p
  walk_at "ws"
  refine ⟨hd, c, 40, rfl, hh5, by decide, by decide, fun most H6 s0 s1 g6 hh6 => ?_⟩
  walk_at "ws"
  have hvp6 : SqT K H6 vp (ws.map V.int) := sqT_t g6.tups (SqT.of h5)
  refine ⟨hd, c, m, wa, bs, W, vp, ws, most, rfl, hh6, sqT_t g6.tups hwa5, tup5.g g6 (fun p e => by cases e; exact hh5), web, hvp6, by omega, hws, s0, by omega, fun q dt st ds H7 g7 hh7 hq hdia ld rec => ?_⟩
  refine r_ixT (SqT.of hq) (v := .ref dt) rfl ?_
  have hvp7 := sqT_t g7.tups hvp6
  have g07 := (((g1.trans g2).trans g3).trans g35).trans (g6.trans g7)
  walk_at "ws"
  refine ⟨hd, c, 4, rfl, hh7, by decide, by decide, fun r3 H8 r30 r31 g8 hh8 => ?_⟩
  walk_at "ws"
  refine ⟨_, _, rfl, ?_⟩
  refine i_rng1 (by split <;> omega) (by split <;> omega) ?_
  refine for_it walk_range (fun i σ H' => ∃ (dt : Addr) (ds : List (List Int)) (u7 u8 : Option V), σ = [some (.ref hd), some (.int mm), some (.int mp), some (.int m), some (.ref wa), some (.ref vp), some (.ref dt), u7, u8] ∧ G (some (hd, c)) H H' ∧ SqT K H' vp (ws.map V.int) ∧ Dia K H' dt ds ∧ ds.length = m.toNat ∧ IsRec ws ds) ⟨dt, ds, _, _, rfl, g07.trans g8, sqT_t g8.tups hvp7, hdia.g g8 (fun p e => by cases e; exact hh7), ld, rec⟩ (fun _ _ _ _ _ => trivial) ?_ ?_
  · rintro i _ σ _ H9 hi ⟨dt, ds, u7, u8, rfl, g9, hv9, hd9, ld, rec⟩ ⟨rfl, rfl⟩
    walk_at "ws"
    refine ⟨hd, c, vp, dt, ws, ds, rfl, g9.hand (hd, c) rfl hh, hv9, hd9, rec, fun p ds' HA gA hhA hdA recA lA => ?_⟩
    walk_at "ws"
    exact ⟨p, ds', _, _, rfl, g9.trans gA, sqT_t gA.tups hv9, hdA, by omega, recA⟩
  · rintro σ H9 ⟨dt, ds, u7, u8, rfl, g9, hv9, hd9, ld, rec⟩
    walk_at "ws"
    refine ⟨sz (by simp), fun q HA hq gA hA => ?_⟩
    exact k q wa vp dt m ws ds HA (g9.trans (gA _)) ((g9.trans (gA _)).hand (hd, c) rfl hh) hA (sqT_t (gA none).tups hv9) (hd9.n (gA none)) ld m1 m7 rec

end
end Mine
/-! ## K13 -/


namespace Mine
section
variable {P : Program} {w : World} {K : PySem.W.Frag} {mg : Str → Option Value} {base : Heap} {a : Ads}

/-! ### the law -/
/-- (): its object is told -/
def tTup0F : TE := fun _ H Q => ∀ p H2, H p = none → (∀ o, G o H H2) → FrzT H2 p [] → Q (.ref p) H2
theorem w_tup0F {σ : L2.St} {H : Hp} {Q : VK} (q : ∀ p H2, H p = none → (∀ o, G o H H2) → FrzT H2 p [] → Q (.ref p) H2) : tTup0F σ H Q := q
theorem pe_tup0F {X : Cx} {x1} {pos : Pos} : PE X (.Tuple [] x1 pos) tTup0F := by
  refine ⟨fun pins s σ H Q I hq => ?_⟩
  refine wpAny_Tuple_spliced (thn ((pa_nil (X := X)).run pos pins s σ H (fun xs H1 => xs = [] ∧ H1 = H) I ⟨rfl, rfl⟩) fun us s1 ⟨xs, H1, I1, r, e1, e2⟩ => ?_)
  subst e1 e2
  cases r
  have hf : H1 s1.heap.objs.size = none := I1.hok.fresh (Nat.le_refl _)
  exact ⟨Nat.zero_le _, .ref s1.heap.objs.size, _, I1.laid (o := .frz _ (.tup [])) (t' := s1.toks) (fun b u e => Heap.get?_push_of_some _ e) (Nat.le_refl _) ⟨Heap.get?_push_size _ rfl, Nat.zero_le _, [], .nil, ⟨_, Heap.get?_push_size _ rfl, rfl, _, rfl⟩⟩, rfl, hq _ _ hf (fun _ => G.alloc hf) ⟨_, upd_same, rfl⟩⟩
theorem k_sortedIT {X : Cx} (K : PySem.W.Frag) (hK : X.K = K := by rfl) : CallR X (.builtin "sorted") (rSortedIT K) := by subst hK; exact cr_sortedIT
theorem mo_lenix {K : PySem.W.Frag} {i j : Nat} : MoE (tCB (rLenK K) (tCons (tOp (rIxT K) (tVar i) (tVar j)) tNil)) := fun σ H Q Q' k ⟨v, e, w, e2, p, xs, z, y, a1, a2, a3, a4, p2, ys, b1, b2, q⟩ => ⟨v, e, w, e2, p, xs, z, y, a1, a2, a3, a4, p2, ys, b1, b2, k _ _ q⟩
/-- where the puts below i stand in d, in the puts' order -/
def sizes (d : List Int) (i : Nat) : List Int := ((List.range i).filter fun (p : Nat) => decide ((p : Int) ∈ d)).map fun (p : Nat) => ((d.idxOf (p : Int) : Nat) : Int)
theorem sizes_succ (d : List Int) (i : Nat) : sizes d (i + 1) = sizes d i ++ (if (i : Int) ∈ d then [((d.idxOf (i : Int) : Nat) : Int)] else []) := by
  unfold sizes
  rw [List.range_succ, List.filter_append, List.map_append]
  congr 1
  by_cases c : (i : Int) ∈ d <;> simp [c]
theorem sizes_perm {d : List Int} {n : Nat} (nd : d.Nodup) (rng : ∀ p ∈ d, 0 ≤ p ∧ p < (n : Int)) : (sizes d n).Perm (upto d.length) := by
  refine (List.perm_ext_iff_of_nodup ?_ ?_).mpr fun x => ?_
  · unfold sizes
    rw [List.Nodup, List.pairwise_map]
    refine List.Pairwise.imp_of_mem (fun {i j} hi hj hij => ?_) ((List.pairwise_lt_range (n := n)).sublist List.filter_sublist)
    intro e
    have e : d.idxOf (i : Int) = d.idxOf (j : Int) := Int.ofNat.inj e
    have hi := (List.mem_filter.mp hi).2
    have hj := (List.mem_filter.mp hj).2
    have e1 := idx_at (of_decide_eq_true hi)
    rw [e, idx_at (of_decide_eq_true hj)] at e1
    have := Option.some.inj e1
    omega
  · unfold upto
    exact List.pairwise_map.mpr ((List.pairwise_lt_range (n := d.length)).imp fun h e => by omega)
  · unfold sizes upto
    rw [List.mem_map, List.mem_map]
    constructor
    · rintro ⟨p, hp, rfl⟩
      have hp := of_decide_eq_true (List.mem_filter.mp hp).2
      exact ⟨_, List.mem_range.mpr (idx_lt hp), rfl⟩
    · rintro ⟨i, hi, rfl⟩
      have hi := List.mem_range.mp hi
      have e : d[i]? = some d[i] := List.getElem?_eq_getElem hi
      have m := List.mem_of_getElem? e
      have r := rng _ m
      have en : ((d[i].toNat : Nat) : Int) = d[i] := by omega
      refine ⟨d[i].toNat, List.mem_filter.mpr ⟨List.mem_range.mpr (by omega), decide_eq_true (by rw [en]; exact m)⟩, ?_⟩
      rw [en, idx_of nd e]
theorem sorted_one {l l' k : List Int} (p : l.Perm k) (p' : l'.Perm k) (h : l.Pairwise (· ≤ ·)) (h' : l'.Pairwise (· ≤ ·)) : l = l' :=
  (p.trans p'.symm).eq_of_pairwise (fun a b _ _ h1 h2 => Int.le_antisymm h1 h2) h h'
theorem rec_told {ws : List Int} {ds ds' : List (List Int)} (h : IsRec ws ds) (hl : ds'.length = ds.length) (hp : ∀ d ∈ ds', d.Perm (upto ws.length)) : IsRec ws ds' := by
  have nu : (upto ws.length).Nodup := by
    unfold upto
    exact List.pairwise_map.mpr ((List.pairwise_lt_range (n := ws.length)).imp fun h e => by omega)
  have mu : ∀ x, x ∈ upto ws.length ↔ 0 ≤ x ∧ x < (ws.length : Int) := fun x => by
    unfold upto
    rw [List.mem_map]
    constructor
    · rintro ⟨i, hi, rfl⟩
      have := List.mem_range.mp hi
      omega
    · intro h
      exact ⟨x.toNat, List.mem_range.mpr (by omega), by omega⟩
  refine ⟨by rw [hl]; exact h.m1, by rw [hl]; exact h.m7, h.p30, fun w hw => by rw [hl]; exact h.wr w hw, fun d hd => (hp d hd).nodup_iff.mpr nu, fun d hd p hpd => (mu p).mp ((hp d hd).mem_iff.mp hpd), fun p w d hpw hd => ?_⟩
  have := (List.getElem?_eq_some_iff.mp hpw).1
  exact (hp d (List.mem_of_getElem? hd)).mem_iff.mpr ((mu _).mpr (by omega))
theorem sh_ints (ns : List Int) : SeqAt.shaped (.list (ns.map PyData.int)) = true := sh_of (by
    rw [PyData.canLay0]
    exact canAll fun d h => by
      obtain ⟨n, _, rfl⟩ := List.mem_map.mp h
      exact can_int) (by
    rw [PyData.depth]
    have := depAll (n := 0) (ds := ns.map PyData.int) fun d h => by
      obtain ⟨n, _, rfl⟩ := List.mem_map.mp h
      rw [dep_int]; exact Nat.le_refl _
    omega)
theorem eqv_ints (ns ms : List Int) : PyData.eqv (.list (ns.map PyData.int)) (.list (ms.map PyData.int)) = decide (ns = ms) := by
  rw [PyData.eqv]; exact eqvAll_map (fun _ _ => eqv_int) ns ms
theorem sh_dD (ds : List (List Int)) : SeqAt.shaped (.tuple (ds.map dI)) = true := sh_of (can_tup fun d h => by
  obtain ⟨n, _, rfl⟩ := List.mem_map.mp h
  exact can_dI n) (Nat.le_trans (dep_tup (n := 1) fun d h => by
  obtain ⟨n, _, rfl⟩ := List.mem_map.mp h
  exact dep_dI n) (by decide))
theorem eqv_dD (ds : List (List Int)) : PyData.eqv (.tuple (ds.map dI)) (.tuple (ds.map dI)) = true := by
  rw [PyData.eqv, eqvAll_map eqv_dI]; simp
theorem Dia.dp {H : Hp} {p : Addr} {ds : List (List Int)} (h : Dia K H p ds) : Dp K H (.ref p) (.tuple (ds.map dI)) := by
  obtain ⟨bs, h1, h2, h3⟩ := h
  refine .tup h1 ?_
  clear h1
  induction ds generalizing bs with
  | nil =>
    have : bs = [] := List.eq_nil_of_length_eq_zero (by simpa using h2)
    subst this
    exact .nil
  | cons d ds ih =>
    match bs, h2, h3 with
    | b :: bs, h2, h3 =>
      exact .cons (dp_ofI (h3 0 b d rfl rfl).sq) (ih bs (by simpa using h2) fun i b' d' e1 e2 => h3 (i + 1) b' d' (by simpa using e1) (by simpa using e2))
theorem upto_le (n : Nat) : (upto n).Pairwise (· ≤ ·) := by
  unfold upto
  exact List.pairwise_map.mpr ((List.pairwise_lt_range (n := n)).imp fun h => by omega)
theorem full_perm {d : List Int} {n : Nat} (nd : d.Nodup) (rng : ∀ p ∈ d, 0 ≤ p ∧ p < (n : Int)) (h : d.length = n) : d.Perm (upto n) := by
  have l := (sizes_perm nd rng).length_eq
  unfold sizes upto at l
  rw [List.length_map, List.length_map, List.length_range, h] at l
  have all := List.length_filter_eq_length_iff.mp (l.trans (List.length_range).symm)
  refine (List.perm_ext_iff_of_nodup nd (by
    unfold upto
    exact List.pairwise_map.mpr ((List.pairwise_lt_range (n := n)).imp fun h e => by omega))).mpr fun x => ?_
  unfold upto
  rw [List.mem_map]
  constructor
  · intro hx
    have := rng x hx
    exact ⟨x.toNat, List.mem_range.mpr (by omega), by omega⟩
  · rintro ⟨i, hi, rfl⟩
    exact of_decide_eq_true (all i hi)
def spLaw (K : PySem.W.Frag) : Sp := fun vs H Q _ => ∃ (s : Addr) (ns : List Int), vs = [.ref s] ∧ SqL K H s (ns.map V.int) ∧ ns.length ≤ 63 ∧ ∀ H', Q (.bl true) H'
theorem ok_law (T : Txt K mg a) : FnOk P w K mg base CX0 9 a.f_law a.d_law P_law (spLaw K) := by
  refine T.F_law.ok sc_law (fun vs H Q E h => by obtain ⟨s, ns, rfl, _⟩ := h; rfl) (fun cdv A outer s0 H vs Q E hr h => ?_)
  obtain ⟨s, ns, rfl, hs, hl, k⟩ := h
  have G__law_is : FnOk P w K mg base CX0 3 a.f__law_is a.d__law_is P__law_is (sp__law_is K 2) := ok__law_is T 2
  have G__law_hand : FnOk P w K mg base CX0 1 a.f__law_hand a.d__law_hand P__law_hand (sp__law_hand K) := ok__law_hand T
  have G__law_draw : FnOk P w K mg base CX0 1 a.f__law_draw a.d__law_draw P__law_draw sp__law_draw := ok__law_draw T
  have G__law_parts : FnOk P w K mg base CX0 3 a.f__law_parts a.d__law_parts P__law_parts (sp__law_parts K) := ok__law_parts T
  have G__law_all_told : FnOk P w K mg base CX0 2 a.f__law_all_told a.d__law_all_told P__law_all_told (sp__law_all_told K) := ok__law_all_told T
  have G_Record_init : FnOk P w K mg base CX0 7 a.f_Record_init a.d_Record_init P_Record_init (sp_Record_init K a.c_Record) := ok_Record_init T
  have G_ahead : FnOk P w K mg base CX0 5 a.f_ahead a.d_ahead P_ahead (sp_ahead K a.c_Record) := ok_ahead T
  have G__law_flag : FnOk P w K mg base CX0 1 a.f__law_flag a.d__law_flag P__law_flag sp__law_flag := ok__law_flag T
  have G_is_whole : FnOk P w K mg base CX0 1 a.f_is_whole a.d_is_whole P_is_whole (sp_is_whole K a.c_Record) := ok_is_whole T
  refine ⟨_, (pss_cons (ps_set (i := 1) sc_law.nd rfl (Or.inl rfl) (pe_call (G__law_hand) (hr.mono (by omega)) rfl T.m__law_hand T.F__law_hand.kp T.b__law_hand .nil pass0 (pa_cons (pv 0) pa_nil)))
  (pss_cons (ps_for PassesOwn.never rfl (pi_range1 rfl T.n_range (pa_cons pe_int pa_nil)) (pg_name (i := 2) sc_law.nd rfl (Or.inl rfl))
    (pss_cons (ps_asg (pe_call (G__law_parts) (hr.mono (by omega)) rfl T.m__law_parts T.F__law_parts.kp T.b__law_parts .nil pass0 (pa_cons (pv 1) (pa_cons pe_int (pa_cons pe_int pa_nil)))) (pg_tup rfl (pgs_cons (pg_name (i := 3) sc_law.nd rfl (Or.inl rfl)) (pgs_cons (pg_name (i := 4) sc_law.nd rfl (Or.inl rfl)) (pgs_cons (pg_name (i := 5) sc_law.nd rfl (Or.inr rfl)) (pgs_cons (pg_name (i := 6) sc_law.nd rfl (Or.inl rfl)) pgs_nil))))))
  (pss_cons (ps_if (pt_cmpR op_eq (pe_call (G__law_draw) (hr.mono (by omega)) rfl T.m__law_draw T.F__law_draw.kp T.b__law_draw .nil pass0 (pa_cons (pv 1) (pa_cons pe_int pa_nil))) pe_int (nomark _))
    (pss_one (ps_set (i := 6) sc_law.nd rfl (Or.inl rfl) (pe_call (G__law_all_told) (hr.mono (by omega)) rfl T.m__law_all_told T.F__law_all_told.kp T.b__law_all_told .nil pass0 (pa_cons (pv 1) (pa_cons (pv 3) (pa_cons (pv 5) pa_nil))))))
    pss_nil)
  (pss_cons (ps_set (i := 7) sc_law.nd rfl (Or.inl rfl) (pe_make T.K_Record (G_Record_init) (hr.mono (by omega)) rfl T.m_Record T.b_Record_init .nil pass0 (pa_cons (pv 5) (pa_cons (pv 6) pa_nil))))
  (pss_cons (ps_for PassesOwn.never rfl (pi_range1 rfl T.n_range (pa_cons (pv 3) pa_nil)) (pg_name (i := 8) sc_law.nd rfl (Or.inl rfl))
    (pss_cons (ps_set (i := 9) sc_law.nd rfl (Or.inl rfl) (pe_lstN pa_nil))
  (pss_cons (ps_for PassesOwn.never rfl (pi_range1 rfl T.n_range (pa_cons (pe_callB call_len_seq (by rfl) T.n_len (by decide +kernel) (pa_cons (pv 5) pa_nil)) pa_nil)) (pg_name (i := 10) sc_law.nd rfl (Or.inl rfl))
    (pss_cons (ps_set (i := 11) sc_law.nd rfl (Or.inl rfl) pe_non)
  (pss_cons (ps_if (pt_cmpR op_in_seq (pv 10) (pe_ix ix_tup (pv 6) (pv 8) (fun _ _ => rfl)) (by rfl))
    (pss_cons (ps_set (i := 11) sc_law.nd rfl (Or.inl rfl) (pe_callTy call_tupleN (by rfl) T.n_tuple (by decide +kernel) (pa_cons (pe_callB cr_sortedIT (by rfl) T.n_sorted (by decide +kernel) (pa_cons (pe_slice sl_tupAN (pe_ix ix_tup (pv 6) (pv 8) (fun _ _ => rfl)) po_none (po_some (pe_bmT PySem.F.plainAttrs_tuple PySem.F.slot_tuple_index PySem.F.type_tuple_index mt_indexTI (pe_ix ix_tup (pv 6) (pv 8) (fun _ _ => rfl)) (pa_cons (pv 10) pa_nil)))) pa_nil)) pa_nil)))
  (pss_one (ps_expr (pe_bm PySem.F.plainAttrs_list PySem.F.slot_list_append PySem.F.type_list_append mt_append (pv 9) (pa_cons (pe_callB call_len_seq (by rfl) T.n_len (by decide +kernel) (pa_cons (pv 11) pa_nil)) pa_nil)))))
    pss_nil)
  (pss_one (ps_if (pt_not (pt_val (pe_call (G__law_is) (hr.mono (by omega)) rfl T.m__law_is T.F__law_is.kp T.b__law_is .nil pass0 (pa_cons (pe_lstN (pa_cons (pe_call (G_ahead) (hr.mono (by omega)) rfl T.m_ahead T.F_ahead.kp T.b_ahead .nil pass0 (pa_cons (pv 7) (pa_cons (pv 8) (pa_cons (pv 10) pa_nil)))) pa_nil)) (pa_cons (pe_lstN (pa_cons (pv 11) pa_nil)) pa_nil)))))
    (pss_one (ps_ret pe_bl))
    pss_nil)))))
  (pss_one (ps_if (pt_cmpR (op_neD hr.units) (pe_callB cr_sortedIL (by rfl) T.n_sorted (by decide +kernel) (pa_cons (pv 9) pa_nil)) (pe_listRgN rfl (by rfl) T.n_list (prg_1 (by rfl) T.n_range (pe_callB call_len_seq (by rfl) T.n_len (by decide +kernel) (pa_cons (pe_ix ix_tup (pv 6) (pv 8) (fun _ _ => rfl)) pa_nil))) (mo_rg1 mo_lenix)) (nomark _))
    (pss_one (ps_ret pe_bl))
    pss_nil)))))
  (pss_cons (ps_set (i := 12) sc_law.nd rfl (Or.inl rfl) (pe_callB (cr_all rfl) (by rfl) T.n_all (by decide +kernel) (pa_cons (pe_lc (own := [("_law_diary", 13)]) (g := (gName 13)) (tt := tYes) rfl sc_law.nd (pi_tup (pv 6)) (blkOk_by (N := N_law) (sc := defScope s_law) (by decide +kernel)) (fun _ _ _ _ _ => (pg_name (i := 13) sc_law.nd rfl (by first | exact Or.inl rfl | exact Or.inr rfl))) (fun _ _ _ _ _ => pts_nil) (fun _ _ _ _ _ => (pe_cmpR (k_op_eqD K hr.units) (pe_callB (k_sortedIT K) (by rfl) T.n_sorted (by decide +kernel) (pa_cons (pv 13) pa_nil)) (pe_listRgN rfl (by rfl) T.n_list (prg_1 (by rfl) T.n_range (pe_callB (k_call_len_seq K) (by rfl) T.n_len (by decide +kernel) (pa_cons (pv 5) pa_nil))) (mo_rg1 mo_len)) (nomark _)))) pa_nil)))
  (pss_one (ps_if (L2.PW.pt (pw_or (pt_not (pt_val (pe_call (G__law_flag) (hr.mono (by omega)) rfl T.m__law_flag T.F__law_flag.kp T.b__law_flag .nil pass0 (pa_cons (pe_call (G_is_whole) (hr.mono (by omega)) rfl T.m_is_whole T.F_is_whole.kp T.b_is_whole .nil pass0 (pa_cons (pv 7) pa_nil)) (pa_cons (pv 12) pa_nil))))) (pw_or (pt_cmpR (op_neD hr.units) (pe_fld (pv 7) rfl) (pv 6) (nomark _)) (pw_or1 (pt_cmpR (op_neD hr.units) (pe_fld (pv 7) rfl) (pv 5) (nomark _))))))
    (pss_one (ps_ret pe_bl))
    pss_nil))))))))
  (pss_one (ps_ret (pe_cmpR op_isBl (pe_call (G_is_whole) (hr.mono (by omega)) rfl T.m_is_whole T.F_is_whole.kp T.b_is_whole .nil pass0 (pa_cons (pe_make T.K_Record (G_Record_init) (hr.mono (by omega)) rfl T.m_Record T.b_Record_init .nil pass0 (pa_cons pe_tup0F (pa_cons (pe_tupN (pa_cons pe_tup0F (pa_cons pe_tup0F pa_nil))) pa_nil))) pa_nil)) pe_bl (nomark _)))))), ?_⟩
  walk_at "ws"
  refine ⟨s, ns, rfl, hs, hl, fun hd c H1 g1 hh1 => ?_⟩
  walk_at "ws"
  refine i_rng1 (by decide) (by decide) ?_
  refine for_it walk_range (fun i σ H' => Hand H' hd c ∧ ∃ u2 u3 u4 u5 u6 u7 u8 u9 u10 u11 u12 u13, σ = [some (.ref s), some (.ref hd), u2, u3, u4, u5, u6, u7, u8, u9, u10, u11, u12, u13]) ⟨hh1, _, _, _, _, _, _, _, _, _, _, _, _, rfl⟩ (fun _ _ _ _ _ => trivial) ?_ ?_
  · rintro turn _ σ _ H2 ht ⟨hh2, u2, u3, u4, u5, u6, u7, u8, u9, u10, u11, u12, u13, rfl⟩ ⟨rfl, rfl⟩
    walk_at "ws"
    refine ⟨hd, c, 7, 12, rfl, hh2, by decide, by decide, by decide, by decide, fun p wa vp dt m ws ds H3 g3 hh3 hp hv hdia ld m1 m7 rec => ?_⟩
    obtain ⟨n, rfl⟩ : ∃ n : Nat, m = (n : Int) := ⟨m.toNat, by omega⟩
    rw [Int.toNat_natCast] at ld
    refine ⟨p, _, rfl, SqT.of hp, rfl, ?_⟩
    refine ⟨_, _, rfl, ?_⟩
    walk_at "ws"
    refine ⟨_, _, rfl, ?_⟩
    walk_at "ws"
    refine ⟨_, _, rfl, ?_⟩
    walk_at "ws"
    refine ⟨_, _, rfl, ?_⟩
    walk_at "ws"
    refine ⟨rfl, ?_⟩
    dsimp only
    refine w_seqM (fun σ H' => ∃ (dt : Addr) (ds : List (List Int)), σ = [some (.ref s), some (.ref hd), some (.int (0 + (turn : Int))), some (.int (n : Int)), some (.ref wa), some (.ref vp), some (.ref dt), u7, u8, u9, u10, u11, u12, u13] ∧ Hand H' hd c ∧ SqT K H' vp (ws.map V.int) ∧ Dia K H' dt ds ∧ ds.length = n ∧ IsRec ws ds) (fun N kN => ?_) ?_
    · walk_at "ws"
      refine ⟨hd, c, 4, rfl, hh3, by decide, by decide, fun r H4 r0 r1 g4 hh4 => ?_⟩
      walk_at "ws"
      refine w_ite (fun e => ?_) (fun e => ?_)
      · walk_at "ws"
        refine ⟨hd, c, n, vp, ws, rfl, hh4, m1, m7, sqT_t g4.tups hv, rec.p30, fun p ds' H5 g5 hh5 hd5 ld5 told => ?_⟩
        walk_at "ws"
        refine kN _ _ ?_
        exact ⟨p, ds', rfl, hh5, sqT_t (g4.trans g5).tups hv, hd5, by omega, rec_told rec (by omega) told⟩
      · walk_at "ws"
        refine kN _ _ ?_
        exact ⟨dt, ds, rfl, hh4, sqT_t g4.tups hv, hdia.g g4 (fun p e => by cases e; exact hh3), ld, rec⟩
    clear hp hv hdia ld rec hh3 g3
    clear dt ds
    rintro σ H3 ⟨dt, ds, rfl, hh3, hv, hdia, ld, rec⟩
    have p30 := rec.p30
    obtain ⟨bs, hbs, lb, hb⟩ := id hdia
    walk_at "ws"
    refine rec_new hv hdia rec fun x H4 hx g4 hxr => ?_
    walk_at "ws"
    refine i_rng1 (by omega) (by omega) ?_
    rw [Int.toNat_natCast]
    refine for_it walk_range (fun i σ H' => G none H4 H' ∧ ∃ u8 u9 u10 u11, σ = [some (.ref s), some (.ref hd), some (.int (0 + (turn : Int))), some (.int (n : Int)), some (.ref wa), some (.ref vp), some (.ref dt), some (.ref x), u8, u9, u10, u11, u12, u13]) ⟨G.refl, _, _, _, _, rfl⟩ (fun _ _ _ _ _ => trivial) ?_ ?_
    · rintro y _ σ _ H5 hy ⟨g5, u8, u9, u10, u11, rfl⟩ ⟨rfl, rfl⟩
      have g35 : G none H3 H5 := (g4 none).trans g5
      obtain ⟨b, hby⟩ : ∃ b, bs[y]? = some b := ⟨_, List.getElem?_eq_getElem (by omega)⟩
      obtain ⟨d, hdy⟩ : ∃ d, ds[y]? = some d := ⟨_, List.getElem?_eq_getElem (by omega)⟩
      have hf := hb y b d hby hdy
      have dm := List.mem_of_getElem? hdy
      have nd := rec.nd d dm
      have rng := rec.rng d dm
      have dlen := diary_len nd rng
      walk_at "ws"
      refine ⟨sz (by simp), fun S H6 hS g6 h6 => ?_⟩
      walk_at "ws"
      refine ⟨vp, _, rfl, .inr (sqT_t (g35.trans (g6 none)).tups hv), ?_⟩
      walk_at "ws"
      rw [List.length_map]
      refine i_rng1 (by omega) (by omega) ?_
      rw [Int.toNat_natCast]
      refine for_it walk_range (fun i σ H' => (G none H5 H' ∧ H' S = some (.lst ((sizes d i).map V.int))) ∧ ∃ u10 u11, σ = [some (.ref s), some (.ref hd), some (.int (0 + (turn : Int))), some (.int (n : Int)), some (.ref wa), some (.ref vp), some (.ref dt), some (.ref x), some (.int (0 + (y : Int))), some (.ref S), u10, u11, u12, u13]) ⟨⟨g6 none, h6⟩, _, _, rfl⟩ (fun _ _ _ _ _ => trivial) ?_ ?_
      · rintro i _ σ _ H7 hi ⟨⟨g7, h7⟩, u10, u11, rfl⟩ ⟨rfl, rfl⟩
        have ei : (0 : Int) + (i : Int) = (i : Int) := Int.zero_add _
        have ey : (0 : Int) + (y : Int) = (y : Int) := Int.zero_add _
        have g37 := g35.trans g7
        have hf7 := hf.n g37
        have hbs7 := sqT_t g37.tups hbs
        have at7 : atI (bs.map V.ref) (0 + (y : Int)) = some (.ref b) := at_of (j := y) ey (by rw [List.getElem?_map, hby]; rfl)
        have szl : (sizes d i).length ≤ i := by
          unfold sizes
          rw [List.length_map]
          refine Nat.le_trans (List.length_filter_le _ _) ?_
          rw [List.length_range]; exact Nat.le_refl _
        walk_at "wn"
        refine w_seq ?_
        walk_at "wn"
        dsimp only
        refine w_seqM (fun σ H' => ∃ dv : V, σ = [some (.ref s), some (.ref hd), some (.int (0 + (turn : Int))), some (.int (n : Int)), some (.ref wa), some (.ref vp), some (.ref dt), some (.ref x), some (.int (0 + (y : Int))), some (.ref S), some (.int (0 + (i : Int))), some dv, u12, u13] ∧ G none H5 H' ∧ H' S = some (.lst ((sizes d (i + 1)).map V.int)) ∧ (((i : Int) ∉ d ∧ dv = .non) ∨ ((i : Int) ∈ d ∧ ∃ (q : Addr) (os : List Int), dv = .ref q ∧ SqT K H' q (os.map V.int) ∧ os.Perm (ahd d i) ∧ os.Pairwise (· ≤ ·)))) (fun N kN => ?_) ?_
        · walk_at "ws"
          refine r_ixT hbs7 at7 ?_
          refine ⟨b, _, rfl, .inr hf7.sq, rfl, by rw [List.all_map, List.all_eq_true]; intro q _; rfl, ?_⟩
          have ein : inV (.int (0 + (i : Int))) (d.map V.int) = decide ((i : Int) ∈ d) := by
            unfold inV
            rw [List.any_map, Bool.eq_iff_iff, List.any_eq_true, decide_eq_true_iff]
            constructor
            · rintro ⟨z, hz, e⟩
              have e : z = (i : Int) := by simpa [eqV] using e
              exact e ▸ hz
            · intro h
              exact ⟨_, h, by simp [eqV]⟩
          rw [ein]
          by_cases c : (i : Int) ∈ d
          · rw [decide_eq_true c]
            walk_at "ws"
            refine w_iteE rfl ?_
            walk_at "ws"
            refine r_ixT hbs7 at7 ?_
            walk_at "ws"
            refine w_bmt ?_
            walk_at "ws"
            refine r_ixT hbs7 at7 ?_
            refine ⟨⟨b, _, rfl, hf7⟩, ?_⟩
            walk_at "ws"
            refine ⟨b, d, (i : Int), d.idxOf (i : Int), rfl, by simp only [Int.zero_add], hf7.sq, idx_at c, fun j hj e => ?_, ?_⟩
            · have := idx_of nd e
              omega
            walk_at "ws"
            have li := idx_lt c
            refine ⟨b, _, rfl, hf7.sq, fun t H8 g8 h8 => ?_⟩
            rw [cut_to _ (by rw [List.length_map]; omega), ← List.map_take] at h8
            walk_at "ws"
            refine ⟨t, ahd d i, rfl, h8, fun os pm pw l H9 hl g9 h9 => ?_⟩
            walk_at "ws"
            refine ⟨l, _, rfl, .inl ⟨SqL.of h9, fun q HA hq gA hA => ?_⟩⟩
            walk_at "ws"
            have g7A := ((g8 none).trans (g9 none)).trans (gA none)
            have hSA := g7A.all _ _ h7
            refine i_BM hSA ?_
            walk_at "ws"
            refine ⟨q, _, rfl, .inr (SqT.of hA), ?_⟩
            walk_at "ws"
            refine r_app hSA (by rw [List.length_map]; omega) ?_
            walk_at "ws"
            have ol : os.length = d.idxOf (i : Int) := by
              rw [pm.length_eq]
              unfold ahd
              rw [List.length_take]; omega
            refine kN _ _ ?_
            refine ⟨.ref q, rfl, (g7.trans g7A).mut hS (fun _ e => nomatch e), by rw [upd_same, sizes_succ, if_pos c, List.map_append, List.length_map, ol]; rfl, .inr ⟨c, q, os, rfl, sqT_t (Ts.updl hSA) (SqT.of hA), pm, pw⟩⟩
          · rw [decide_eq_false c]
            walk_at "ws"
            refine w_iteN rfl ?_
            walk_at "ws"
            refine kN _ _ ?_
            exact ⟨.non, rfl, g7, by rw [sizes_succ, if_neg c, List.append_nil]; exact h7, .inl ⟨c, rfl⟩⟩
        · rintro σ H8 ⟨dv, rfl, g8, h8, hdv⟩
          walk_at "ws"
          refine ⟨x, ws, ds, y, i, d, by simp only [Int.zero_add]; rfl, hxr.n (g5.trans g8), rec, hdy, by omega, fun nc H9 g9 => ?_, fun c q os H9 g9 hq pm pw => ?_⟩
          · obtain rfl : dv = .non := by
              rcases hdv with ⟨_, h⟩ | ⟨h, _⟩
              · exact h
              · exact absurd h nc
            walk_at "ws"
            refine ⟨sz (by simp), fun l1 HA hl1 gA hA => ?_⟩
            walk_at "ws"
            refine ⟨sz (by simp), fun l2 HB hl2 gB hB => ?_⟩
            refine ⟨.ref l1, .ref l2, .list [.none], rfl, .inr ⟨_, .inr rfl, (by simp), fun e he => by
              have e1 : e = .none := by simpa using he
              rw [e1]; exact .inl trivial⟩, .lst (SqL.of ((gB none).all _ _ hA)) (.cons .non .nil), .lst (SqL.of hB) (.cons .non .nil), fun HC gC => ?_⟩
            walk_at "ws"
            have g9C := (g9.trans ((gA none).trans (gB none))).trans gC
            exact ⟨⟨g8.trans g9C, g9C.all _ _ h8⟩, _, _, rfl⟩
          · obtain ⟨q2, os2, rfl, hq2, pm2, pw2⟩ : ∃ (q2 : Addr) (os2 : List Int), dv = .ref q2 ∧ SqT K H8 q2 (os2.map V.int) ∧ os2.Perm (ahd d i) ∧ os2.Pairwise (· ≤ ·) := by
              rcases hdv with ⟨h, _⟩ | ⟨_, h⟩
              · exact absurd c h
              · exact h
            obtain rfl : os2 = os := sorted_one pm2 pm pw2 pw
            have ol : os2.length ≤ 30 := by
              rw [pm.length_eq]
              unfold ahd
              rw [List.length_take]; omega
            walk_at "ws"
            refine ⟨sz (by simp), fun l1 HA hl1 gA hA => ?_⟩
            walk_at "ws"
            refine ⟨sz (by simp), fun l2 HB hl2 gB hB => ?_⟩
            have gAB := (gA none).trans (gB none)
            refine ⟨.ref l1, .ref l2, .list [dI os2], rfl, .inr ⟨_, .inr rfl, (by simp), fun e he => by
              have e1 : e = dI os2 := by simpa using he
              rw [e1]
              exact .inr ⟨_, .inl rfl, by rw [List.length_map]; omega, fun z hz => by
                obtain ⟨i, _, rfl⟩ := List.mem_map.mp hz
                exact trivial⟩⟩, .lst (SqL.of ((gB none).all _ _ hA)) (.cons ((dp_n gAB).1 _ _ (dp_ofI hq)) .nil), .lst (SqL.of hB) (.cons ((dp_n (g9.trans gAB)).1 _ _ (dp_ofI hq2)) .nil), fun HC gC => ?_⟩
            walk_at "ws"
            have g9C := (g9.trans gAB).trans gC
            exact ⟨⟨g8.trans g9C, g9C.all _ _ h8⟩, _, _, rfl⟩
      · rintro σ H7 ⟨⟨g7, h7⟩, u10, u11, rfl⟩
        have g37 := g35.trans g7
        walk_at "ws"
        refine ⟨S, sizes d ws.length, rfl, SqL.of h7, fun os pm pw l H8 hl g8 h8 => ?_⟩
        refine w_lstRg (w_rg1 ?_)
        walk_at "ws"
        have g38 := g37.trans (g8 none)
        refine r_ixT (sqT_t g38.tups hbs) (v := .ref b) (at_of (j := y) (Int.zero_add _) (by rw [List.getElem?_map, hby]; rfl)) ?_
        walk_at "ws"
        refine ⟨b, _, rfl, .inr (hf.n g38).sq, _, rfl, ?_⟩
        rw [List.length_map]
        refine ⟨RgOk.of_le (by decide) (by omega) (by decide) (by omega), fun r H9 hr9 g9 h9 => ?_⟩
        obtain rfl : os = upto d.length := sorted_one (pm.trans (sizes_perm nd rng)) (List.Perm.refl _) pw (upto_le _)
        rw [rg_upto] at h9
        refine ⟨.list ((upto d.length).map PyData.int), .list ((upto d.length).map PyData.int), .lst (SqL.of ((g9 none).all _ _ h8)) (DpAll.ints _), .lst (SqL.of h9) (DpAll.ints _), sh_ints _, sh_ints _, ?_⟩
        rw [eqv_ints, decide_eq_true (rfl : upto d.length = upto d.length)]
        walk_at "ws"
        exact ⟨((g5.trans g7).trans (g8 none)).trans (g9 none), _, _, _, _, rfl⟩
    · rintro σ H5 ⟨g5, u8, u9, u10, u11, rfl⟩
      have g35 : G none H3 H5 := (g4 none).trans g5
      walk_at "ws"
      refine i_tup (sqT_t g35.tups hbs) ?_
      intro D hD
      refine lc_pure (K := K) (o := none) (walk_tup (xs := bs.map V.ref)) (by rw [List.length_map]; omega) hD (fun _ e => nomatch e) (fun i => ds[i]?.map fun d => PyData.bool (decide (d.length = ws.length))) (fun H' g => sqT_t (g35.trans g).tups hbs) ?_ ?_
      · rintro i v _ H6 hi g6 ⟨rfl, hv'⟩ Qy Qn ky kn
        obtain ⟨b, d, rfl, hbi, hdi, hf⟩ := Dia.at_ (p := dt) lb hb hv'
        have dm := List.mem_of_getElem? hdi
        have nd := rec.nd d dm
        have rng := rec.rng d dm
        walk_at "ws"
        refine ⟨rfl, ?_⟩
        walk_at "ws"
        refine ⟨b, d, rfl, (hf.n (g35.trans g6)).sq, fun os pm pw l H7 hl g7 h7 => ?_⟩
        refine w_lstRg (w_rg1 ?_)
        walk_at "ws"
        refine ⟨vp, _, rfl, .inr (sqT_t ((g35.trans g6).trans (g7 none)).tups hv), _, rfl, ?_⟩
        rw [List.length_map]
        refine ⟨RgOk.of_le (by decide) (by omega) (by decide) (by omega), fun r H8 hr8 g8 h8 => ?_⟩
        rw [rg_upto] at h8
        refine ⟨.list (os.map PyData.int), .list ((upto ws.length).map PyData.int), .lst (SqL.of ((g8 none).all _ _ h7)) (DpAll.ints _), .lst (SqL.of h8) (DpAll.ints _), sh_ints _, sh_ints _, ?_⟩
        rw [eqv_ints]
        have e : decide (os = upto ws.length) = decide (d.length = ws.length) := by
          rw [decide_eq_decide]
          constructor
          · intro z
            rw [← pm.length_eq, z]
            unfold upto
            simp
          · intro z
            exact sorted_one (pm.trans (full_perm nd rng z)) (List.Perm.refl _) pw (upto_le _)
        rw [e]
        exact ky _ _ _ ((g7 none).trans (g8 none)) (.bl _) rfl (by rw [hdi]; rfl)
      intro xs H6 g6 hD6 hds _
      rw [List.length_map, lb, filterMap_range_map] at hds
      obtain rfl := bools_told hds
      walk_at "ws"
      refine ⟨D, _, rfl, SqL.of hD6, ?_⟩
      walk_at "ws"
      have g46 := g5.trans g6
      refine ⟨x, ws, ds, rfl, hxr.n g46, by omega, fun H7 g7 => ?_⟩
      walk_at "ws"
      refine ⟨_, _, rfl, ?_⟩
      have e : (ds.map fun d => decide (d.length = ws.length)).all id = ds.all fun d => decide (d.length = ws.length) := by rw [List.all_map]; rfl
      rw [e, decide_eq_true rfl]
      walk_at "ws"
      have g47 := g46.trans g7
      obtain ⟨dx, wq, dq, hi7, hw7, hd7⟩ := hxr.n g47
      refine r_fld hi7 T.cl_Record T.na_Record_diaries (rf_d _ _) ?_
      walk_at "ws"
      refine ⟨.tuple (ds.map dI), .tuple (ds.map dI), hd7.dp, (hdia.n ((g4 none).trans g47)).dp, sh_dD _, sh_dD _, ?_⟩
      rw [eqv_dD]
      walk_at "ws"
      refine r_fld hi7 T.cl_Record T.na_Record_writers (rf_w _ _) ?_
      walk_at "ws"
      refine ⟨dI ws, dI ws, dp_ofI hw7, dp_ofI (sqT_t ((g4 none).trans g47).tups hv), sh_dI _, sh_dI _, ?_⟩
      rw [eqv_dI, decide_eq_true (rfl : ws = ws)]
      walk_at "ws"
      exact ⟨(((g4 none).trans g47).up (o := some (hd, c))).hand (hd, c) rfl hh3, _, _, _, _, _, _, _, _, _, _, _, _, rfl⟩
  · rintro σ H2 ⟨hh2, u2, u3, u4, u5, u6, u7, u8, u9, u10, u11, u12, u13, rfl⟩
    walk_at "ws"
    refine w_tup0F fun t1 H3 ht1 g3 f1 => ?_
    walk_at "ws"
    refine w_tup0F fun t2 H4 ht2 g4 f2 => ?_
    walk_at "ws"
    refine w_tup0F fun t3 H5 ht3 g5 f3 => ?_
    walk_at "ws"
    refine ⟨sz (by simp), fun t4 H6 ht4 g6 h6 => ?_⟩
    walk_at "ws"
    have f26 := (f2.n (g5 none)).n (g6 none)
    have f36 := f3.n (g6 none)
    have f16 := ((f1.n (g4 none)).n (g5 none)).n (g6 none)
    refine rec_new (ws := []) (ds := [[], []]) f16.sq ⟨[t2, t3], SqT.of h6, rfl, fun i b d e1 e2 => ?_⟩ ⟨by decide, by decide, by decide, (fun _ h => nomatch h), fun d hd => ?_, fun d hd p hp => ?_, fun p w d e _ => by simp at e⟩ fun x H7 hx g7 hxr => ?_
    · match i, e1, e2 with
      | 0, e1, e2 => cases e1; cases e2; exact f26
      | 1, e1, e2 => cases e1; cases e2; exact f36
    · have e : d = [] := by simpa using hd
      rw [e]; exact .nil
    · have e : d = [] := by simpa using hd
      rw [e] at hp; exact nomatch hp
    walk_at "ws"
    refine ⟨x, [], [[], []], rfl, hxr, by decide, fun H8 g8 => ?_⟩
    walk_at "ws"
    refine ⟨_, _, rfl, rfl, ?_⟩
    exact k _

end
end Mine
/-! ## KN -/
end
namespace Mine
open PySem L2 GA
/-- what the head finds on the heap is what the proofs lean on -/
theorem all_mk {l : PySem.W.OpenLaw} {w : World} {K : PySem.W.Frag} {h : Heap} {mg : Str → Option Value} {fa : Addr} (X : K.In h) (G : h.Ns mainGlobals mg) (hfa : mg "law" = some (.ref fa))
    {ff_is_integer : Addr} {od_is_integer an_is_integer : Option Addr} {sl_is_integer : Array (Option Value)} {oc_is_integer kV_is_integer dc_is_integer pm_is_integer cd_is_integer ct_is_integer : Value}
    {ff_is_between : Addr} {od_is_between an_is_between : Option Addr} {sl_is_between : Array (Option Value)} {oc_is_between kV_is_between dc_is_between pm_is_between cd_is_between ct_is_between : Value}
    {ff_is_below : Addr} {od_is_below an_is_below : Option Addr} {sl_is_below : Array (Option Value)} {oc_is_below kV_is_below dc_is_below pm_is_below cd_is_below ct_is_below : Value}
    {ff_is_tuple_of : Addr} {od_is_tuple_of an_is_tuple_of : Option Addr} {sl_is_tuple_of : Array (Option Value)} {oc_is_tuple_of kV_is_tuple_of dc_is_tuple_of pm_is_tuple_of cd_is_tuple_of ct_is_tuple_of : Value}
    {ff_are_below : Addr} {od_are_below an_are_below : Option Addr} {sl_are_below : Array (Option Value)} {oc_are_below kV_are_below dc_are_below pm_are_below cd_are_below ct_are_below : Value}
    {ff_Record_init : Addr} {od_Record_init an_Record_init : Option Addr} {sl_Record_init : Array (Option Value)} {oc_Record_init kV_Record_init dc_Record_init pm_Record_init cd_Record_init ct_Record_init : Value}
    {ff_Record_eq : Addr} {od_Record_eq an_Record_eq : Option Addr} {sl_Record_eq : Array (Option Value)} {oc_Record_eq kV_Record_eq dc_Record_eq pm_Record_eq cd_Record_eq ct_Record_eq : Value}
    {ff_check_record : Addr} {od_check_record an_check_record : Option Addr} {sl_check_record : Array (Option Value)} {oc_check_record kV_check_record dc_check_record pm_check_record cd_check_record ct_check_record : Value}
    {ff_is_diary : Addr} {od_is_diary an_is_diary : Option Addr} {sl_is_diary : Array (Option Value)} {oc_is_diary kV_is_diary dc_is_diary pm_is_diary cd_is_diary ct_is_diary : Value}
    {ff_check_put : Addr} {od_check_put an_check_put : Option Addr} {sl_check_put : Array (Option Value)} {oc_check_put kV_check_put dc_check_put pm_check_put cd_check_put ct_check_put : Value}
    {ff_ahead : Addr} {od_ahead an_ahead : Option Addr} {sl_ahead : Array (Option Value)} {oc_ahead kV_ahead dc_ahead pm_ahead cd_ahead ct_ahead : Value}
    {ff_is_whole : Addr} {od_is_whole an_is_whole : Option Addr} {sl_is_whole : Array (Option Value)} {oc_is_whole kV_is_whole dc_is_whole pm_is_whole cd_is_whole ct_is_whole : Value}
    {ff__law_hand : Addr} {od__law_hand an__law_hand : Option Addr} {sl__law_hand : Array (Option Value)} {oc__law_hand kV__law_hand dc__law_hand pm__law_hand cd__law_hand ct__law_hand : Value}
    {ff__law_draw : Addr} {od__law_draw an__law_draw : Option Addr} {sl__law_draw : Array (Option Value)} {oc__law_draw kV__law_draw dc__law_draw pm__law_draw cd__law_draw ct__law_draw : Value}
    {ff__law_is : Addr} {od__law_is an__law_is : Option Addr} {sl__law_is : Array (Option Value)} {oc__law_is kV__law_is dc__law_is pm__law_is cd__law_is ct__law_is : Value}
    {ff__law_flag : Addr} {od__law_flag an__law_flag : Option Addr} {sl__law_flag : Array (Option Value)} {oc__law_flag kV__law_flag dc__law_flag pm__law_flag cd__law_flag ct__law_flag : Value}
    {ff__law_web : Addr} {od__law_web an__law_web : Option Addr} {sl__law_web : Array (Option Value)} {oc__law_web kV__law_web dc__law_web pm__law_web cd__law_web ct__law_web : Value}
    {ff__law_ran : Addr} {od__law_ran an__law_ran : Option Addr} {sl__law_ran : Array (Option Value)} {oc__law_ran kV__law_ran dc__law_ran pm__law_ran cd__law_ran ct__law_ran : Value}
    {ff__law_bent : Addr} {od__law_bent an__law_bent : Option Addr} {sl__law_bent : Array (Option Value)} {oc__law_bent kV__law_bent dc__law_bent pm__law_bent cd__law_bent ct__law_bent : Value}
    {ff__law_parts : Addr} {od__law_parts an__law_parts : Option Addr} {sl__law_parts : Array (Option Value)} {oc__law_parts kV__law_parts dc__law_parts pm__law_parts cd__law_parts ct__law_parts : Value}
    {ff__law_all_told : Addr} {od__law_all_told an__law_all_told : Option Addr} {sl__law_all_told : Array (Option Value)} {oc__law_all_told kV__law_all_told dc__law_all_told pm__law_all_told cd__law_all_told ct__law_all_told : Value}
    {ff_law : Addr} {od_law an_law : Option Addr} {sl_law : Array (Option Value)} {oc_law kV_law dc_law pm_law cd_law ct_law : Value}
    {C_Record : Addr}
    {tk_MOST_MACHINES : Tok}
    {tk_MOST_PUTS : Tok}
    (aC_Record : PySem.W.nsIn K mainGlobals "Record" = some (some (.ref C_Record)))
    (a_is_integer : PySem.W.nsIn K mainGlobals "is_integer" = some (some (.ref ff_is_integer)))
    (l_is_integer : K.lookup ff_is_integer = some ⟨oc_is_integer, od_is_integer, .func (PySem.W.fnOf "is_integer" "is_integer" (defArgs s_is_integer) (defBody s_is_integer) (defScope s_is_integer) .none kV_is_integer dc_is_integer pm_is_integer an_is_integer cd_is_integer ct_is_integer), sl_is_integer⟩)
    (c_is_integer : PySem.W.codeIn K cd_is_integer "is_integer" = true)
    (k_is_integer : PySem.W.keepIn K (.ref ff_is_integer) = true)
    (a_is_between : PySem.W.nsIn K mainGlobals "is_between" = some (some (.ref ff_is_between)))
    (l_is_between : K.lookup ff_is_between = some ⟨oc_is_between, od_is_between, .func (PySem.W.fnOf "is_between" "is_between" (defArgs s_is_between) (defBody s_is_between) (defScope s_is_between) .none kV_is_between dc_is_between pm_is_between an_is_between cd_is_between ct_is_between), sl_is_between⟩)
    (c_is_between : PySem.W.codeIn K cd_is_between "is_between" = true)
    (k_is_between : PySem.W.keepIn K (.ref ff_is_between) = true)
    (a_is_below : PySem.W.nsIn K mainGlobals "is_below" = some (some (.ref ff_is_below)))
    (l_is_below : K.lookup ff_is_below = some ⟨oc_is_below, od_is_below, .func (PySem.W.fnOf "is_below" "is_below" (defArgs s_is_below) (defBody s_is_below) (defScope s_is_below) .none kV_is_below dc_is_below pm_is_below an_is_below cd_is_below ct_is_below), sl_is_below⟩)
    (c_is_below : PySem.W.codeIn K cd_is_below "is_below" = true)
    (k_is_below : PySem.W.keepIn K (.ref ff_is_below) = true)
    (a_is_tuple_of : PySem.W.nsIn K mainGlobals "is_tuple_of" = some (some (.ref ff_is_tuple_of)))
    (l_is_tuple_of : K.lookup ff_is_tuple_of = some ⟨oc_is_tuple_of, od_is_tuple_of, .func (PySem.W.fnOf "is_tuple_of" "is_tuple_of" (defArgs s_is_tuple_of) (defBody s_is_tuple_of) (defScope s_is_tuple_of) .none kV_is_tuple_of dc_is_tuple_of pm_is_tuple_of an_is_tuple_of cd_is_tuple_of ct_is_tuple_of), sl_is_tuple_of⟩)
    (c_is_tuple_of : PySem.W.codeIn K cd_is_tuple_of "is_tuple_of" = true)
    (k_is_tuple_of : PySem.W.keepIn K (.ref ff_is_tuple_of) = true)
    (a_are_below : PySem.W.nsIn K mainGlobals "are_below" = some (some (.ref ff_are_below)))
    (l_are_below : K.lookup ff_are_below = some ⟨oc_are_below, od_are_below, .func (PySem.W.fnOf "are_below" "are_below" (defArgs s_are_below) (defBody s_are_below) (defScope s_are_below) .none kV_are_below dc_are_below pm_are_below an_are_below cd_are_below ct_are_below), sl_are_below⟩)
    (c_are_below : PySem.W.codeIn K cd_are_below "are_below" = true)
    (k_are_below : PySem.W.keepIn K (.ref ff_are_below) = true)
    (a_Record_init : PySem.W.findIn K (.ref C_Record) "__init__" = some (some (.ref ff_Record_init)))
    (i_Record_init : PySem.W.isFn K (.ref ff_Record_init) = true)
    (l_Record_init : K.lookup ff_Record_init = some ⟨oc_Record_init, od_Record_init, .func (PySem.W.fnOf "__init__" "Record.__init__" (defArgs s_Record_init) (defBody s_Record_init) (defScope s_Record_init) .none kV_Record_init dc_Record_init pm_Record_init an_Record_init cd_Record_init ct_Record_init), sl_Record_init⟩)
    (c_Record_init : PySem.W.codeIn K cd_Record_init "Record.__init__" = true)
    (k_Record_init : PySem.W.keepIn K (.ref ff_Record_init) = true)
    (a_Record_eq : PySem.W.findIn K (.ref C_Record) "__eq__" = some (some (.ref ff_Record_eq)))
    (i_Record_eq : PySem.W.isFn K (.ref ff_Record_eq) = true)
    (l_Record_eq : K.lookup ff_Record_eq = some ⟨oc_Record_eq, od_Record_eq, .func (PySem.W.fnOf "__eq__" "Record.__eq__" (defArgs s_Record_eq) (defBody s_Record_eq) (defScope s_Record_eq) .none kV_Record_eq dc_Record_eq pm_Record_eq an_Record_eq cd_Record_eq ct_Record_eq), sl_Record_eq⟩)
    (c_Record_eq : PySem.W.codeIn K cd_Record_eq "Record.__eq__" = true)
    (k_Record_eq : PySem.W.keepIn K (.ref ff_Record_eq) = true)
    (a_check_record : PySem.W.nsIn K mainGlobals "check_record" = some (some (.ref ff_check_record)))
    (l_check_record : K.lookup ff_check_record = some ⟨oc_check_record, od_check_record, .func (PySem.W.fnOf "check_record" "check_record" (defArgs s_check_record) (defBody s_check_record) (defScope s_check_record) .none kV_check_record dc_check_record pm_check_record an_check_record cd_check_record ct_check_record), sl_check_record⟩)
    (c_check_record : PySem.W.codeIn K cd_check_record "check_record" = true)
    (k_check_record : PySem.W.keepIn K (.ref ff_check_record) = true)
    (a_is_diary : PySem.W.nsIn K mainGlobals "is_diary" = some (some (.ref ff_is_diary)))
    (l_is_diary : K.lookup ff_is_diary = some ⟨oc_is_diary, od_is_diary, .func (PySem.W.fnOf "is_diary" "is_diary" (defArgs s_is_diary) (defBody s_is_diary) (defScope s_is_diary) .none kV_is_diary dc_is_diary pm_is_diary an_is_diary cd_is_diary ct_is_diary), sl_is_diary⟩)
    (c_is_diary : PySem.W.codeIn K cd_is_diary "is_diary" = true)
    (k_is_diary : PySem.W.keepIn K (.ref ff_is_diary) = true)
    (a_check_put : PySem.W.nsIn K mainGlobals "check_put" = some (some (.ref ff_check_put)))
    (l_check_put : K.lookup ff_check_put = some ⟨oc_check_put, od_check_put, .func (PySem.W.fnOf "check_put" "check_put" (defArgs s_check_put) (defBody s_check_put) (defScope s_check_put) .none kV_check_put dc_check_put pm_check_put an_check_put cd_check_put ct_check_put), sl_check_put⟩)
    (c_check_put : PySem.W.codeIn K cd_check_put "check_put" = true)
    (k_check_put : PySem.W.keepIn K (.ref ff_check_put) = true)
    (a_ahead : PySem.W.nsIn K mainGlobals "ahead" = some (some (.ref ff_ahead)))
    (l_ahead : K.lookup ff_ahead = some ⟨oc_ahead, od_ahead, .func (PySem.W.fnOf "ahead" "ahead" (defArgs s_ahead) (defBody s_ahead) (defScope s_ahead) .none kV_ahead dc_ahead pm_ahead an_ahead cd_ahead ct_ahead), sl_ahead⟩)
    (c_ahead : PySem.W.codeIn K cd_ahead "ahead" = true)
    (k_ahead : PySem.W.keepIn K (.ref ff_ahead) = true)
    (a_is_whole : PySem.W.nsIn K mainGlobals "is_whole" = some (some (.ref ff_is_whole)))
    (l_is_whole : K.lookup ff_is_whole = some ⟨oc_is_whole, od_is_whole, .func (PySem.W.fnOf "is_whole" "is_whole" (defArgs s_is_whole) (defBody s_is_whole) (defScope s_is_whole) .none kV_is_whole dc_is_whole pm_is_whole an_is_whole cd_is_whole ct_is_whole), sl_is_whole⟩)
    (c_is_whole : PySem.W.codeIn K cd_is_whole "is_whole" = true)
    (k_is_whole : PySem.W.keepIn K (.ref ff_is_whole) = true)
    (a__law_hand : PySem.W.nsIn K mainGlobals "_law_hand" = some (some (.ref ff__law_hand)))
    (l__law_hand : K.lookup ff__law_hand = some ⟨oc__law_hand, od__law_hand, .func (PySem.W.fnOf "_law_hand" "_law_hand" (defArgs s__law_hand) (defBody s__law_hand) (defScope s__law_hand) .none kV__law_hand dc__law_hand pm__law_hand an__law_hand cd__law_hand ct__law_hand), sl__law_hand⟩)
    (c__law_hand : PySem.W.codeIn K cd__law_hand "_law_hand" = true)
    (k__law_hand : PySem.W.keepIn K (.ref ff__law_hand) = true)
    (a__law_draw : PySem.W.nsIn K mainGlobals "_law_draw" = some (some (.ref ff__law_draw)))
    (l__law_draw : K.lookup ff__law_draw = some ⟨oc__law_draw, od__law_draw, .func (PySem.W.fnOf "_law_draw" "_law_draw" (defArgs s__law_draw) (defBody s__law_draw) (defScope s__law_draw) .none kV__law_draw dc__law_draw pm__law_draw an__law_draw cd__law_draw ct__law_draw), sl__law_draw⟩)
    (c__law_draw : PySem.W.codeIn K cd__law_draw "_law_draw" = true)
    (k__law_draw : PySem.W.keepIn K (.ref ff__law_draw) = true)
    (a__law_is : PySem.W.nsIn K mainGlobals "_law_is" = some (some (.ref ff__law_is)))
    (l__law_is : K.lookup ff__law_is = some ⟨oc__law_is, od__law_is, .func (PySem.W.fnOf "_law_is" "_law_is" (defArgs s__law_is) (defBody s__law_is) (defScope s__law_is) .none kV__law_is dc__law_is pm__law_is an__law_is cd__law_is ct__law_is), sl__law_is⟩)
    (c__law_is : PySem.W.codeIn K cd__law_is "_law_is" = true)
    (k__law_is : PySem.W.keepIn K (.ref ff__law_is) = true)
    (a__law_flag : PySem.W.nsIn K mainGlobals "_law_flag" = some (some (.ref ff__law_flag)))
    (l__law_flag : K.lookup ff__law_flag = some ⟨oc__law_flag, od__law_flag, .func (PySem.W.fnOf "_law_flag" "_law_flag" (defArgs s__law_flag) (defBody s__law_flag) (defScope s__law_flag) .none kV__law_flag dc__law_flag pm__law_flag an__law_flag cd__law_flag ct__law_flag), sl__law_flag⟩)
    (c__law_flag : PySem.W.codeIn K cd__law_flag "_law_flag" = true)
    (k__law_flag : PySem.W.keepIn K (.ref ff__law_flag) = true)
    (a__law_web : PySem.W.nsIn K mainGlobals "_law_web" = some (some (.ref ff__law_web)))
    (l__law_web : K.lookup ff__law_web = some ⟨oc__law_web, od__law_web, .func (PySem.W.fnOf "_law_web" "_law_web" (defArgs s__law_web) (defBody s__law_web) (defScope s__law_web) .none kV__law_web dc__law_web pm__law_web an__law_web cd__law_web ct__law_web), sl__law_web⟩)
    (c__law_web : PySem.W.codeIn K cd__law_web "_law_web" = true)
    (k__law_web : PySem.W.keepIn K (.ref ff__law_web) = true)
    (a__law_ran : PySem.W.nsIn K mainGlobals "_law_ran" = some (some (.ref ff__law_ran)))
    (l__law_ran : K.lookup ff__law_ran = some ⟨oc__law_ran, od__law_ran, .func (PySem.W.fnOf "_law_ran" "_law_ran" (defArgs s__law_ran) (defBody s__law_ran) (defScope s__law_ran) .none kV__law_ran dc__law_ran pm__law_ran an__law_ran cd__law_ran ct__law_ran), sl__law_ran⟩)
    (c__law_ran : PySem.W.codeIn K cd__law_ran "_law_ran" = true)
    (k__law_ran : PySem.W.keepIn K (.ref ff__law_ran) = true)
    (a__law_bent : PySem.W.nsIn K mainGlobals "_law_bent" = some (some (.ref ff__law_bent)))
    (l__law_bent : K.lookup ff__law_bent = some ⟨oc__law_bent, od__law_bent, .func (PySem.W.fnOf "_law_bent" "_law_bent" (defArgs s__law_bent) (defBody s__law_bent) (defScope s__law_bent) .none kV__law_bent dc__law_bent pm__law_bent an__law_bent cd__law_bent ct__law_bent), sl__law_bent⟩)
    (c__law_bent : PySem.W.codeIn K cd__law_bent "_law_bent" = true)
    (k__law_bent : PySem.W.keepIn K (.ref ff__law_bent) = true)
    (a__law_parts : PySem.W.nsIn K mainGlobals "_law_parts" = some (some (.ref ff__law_parts)))
    (l__law_parts : K.lookup ff__law_parts = some ⟨oc__law_parts, od__law_parts, .func (PySem.W.fnOf "_law_parts" "_law_parts" (defArgs s__law_parts) (defBody s__law_parts) (defScope s__law_parts) .none kV__law_parts dc__law_parts pm__law_parts an__law_parts cd__law_parts ct__law_parts), sl__law_parts⟩)
    (c__law_parts : PySem.W.codeIn K cd__law_parts "_law_parts" = true)
    (k__law_parts : PySem.W.keepIn K (.ref ff__law_parts) = true)
    (a__law_all_told : PySem.W.nsIn K mainGlobals "_law_all_told" = some (some (.ref ff__law_all_told)))
    (l__law_all_told : K.lookup ff__law_all_told = some ⟨oc__law_all_told, od__law_all_told, .func (PySem.W.fnOf "_law_all_told" "_law_all_told" (defArgs s__law_all_told) (defBody s__law_all_told) (defScope s__law_all_told) .none kV__law_all_told dc__law_all_told pm__law_all_told an__law_all_told cd__law_all_told ct__law_all_told), sl__law_all_told⟩)
    (c__law_all_told : PySem.W.codeIn K cd__law_all_told "_law_all_told" = true)
    (k__law_all_told : PySem.W.keepIn K (.ref ff__law_all_told) = true)
    (a_law : PySem.W.nsIn K mainGlobals "law" = some (some (.ref ff_law)))
    (l_law : K.lookup ff_law = some ⟨oc_law, od_law, .func (PySem.W.fnOf "law" "law" (defArgs s_law) (defBody s_law) (defScope s_law) .none kV_law dc_law pm_law an_law cd_law ct_law), sl_law⟩)
    (c_law : PySem.W.codeIn K cd_law "law" = true)
    (k_law : PySem.W.keepIn K (.ref ff_law) = true)
    (pg_Record : PySem.W.plainGet K C_Record Str.empty = true)
    (hd_Record : PySem.W.hasDictIn K C_Record = true)
    (po_Record : PySem.W.plainOver K C_Record = true)
    (sa_Record : PySem.W.findIn K (.ref C_Record) "__setattr__" = some (some (.builtin "object.__setattr__")))
    (mk_Record : PySem.W.makesIn K C_Record = true)
    (kc_Record : PySem.W.keepIn K (.ref C_Record) = true)
    (ha_Record : PySem.W.findIn K (.ref C_Record) "__class__" = some (some (.builtin "object.__class__")))
    (hn_Record : PySem.W.specialIn K (.builtin "object.__class__") "__get__" = some (some (.builtin "getset_descriptor.__get__")))
    (ht_Record : PySem.W.takesIn K (.builtin "object.__class__") = some true)
    (hm_Record : PySem.W.mroIn K C_Record (.type "object") = some true)
    (hne_Record : PySem.W.findIn K (.ref C_Record) "__ne__" = some (some (.builtin "object.__ne__")))
    (na_Record_writers : PySem.W.findIn K (.ref C_Record) "writers" = some none)
    (na_Record_diaries : PySem.W.findIn K (.ref C_Record) "diaries" = some none)
    (co_MOST_MACHINES : PySem.W.nsIn K mainGlobals "MOST_MACHINES" = some (some (.int 7 tk_MOST_MACHINES)))
    (co_MOST_PUTS : PySem.W.nsIn K mainGlobals "MOST_PUTS" = some (some (.int 30 tk_MOST_PUTS)))
    (z_isinstance : PySem.W.nsIn K mainGlobals "isinstance" = some none)
    (z_int : PySem.W.nsIn K mainGlobals "int" = some none)
    (z_bool : PySem.W.nsIn K mainGlobals "bool" = some none)
    (z_tuple : PySem.W.nsIn K mainGlobals "tuple" = some none)
    (z_len : PySem.W.nsIn K mainGlobals "len" = some none)
    (z_all : PySem.W.nsIn K mainGlobals "all" = some none)
    (z_enumerate : PySem.W.nsIn K mainGlobals "enumerate" = some none)
    (z_set : PySem.W.nsIn K mainGlobals "set" = some none)
    (z_sorted : PySem.W.nsIn K mainGlobals "sorted" = some none)
    (z_list : PySem.W.nsIn K mainGlobals "list" = some none)
    (z_zip : PySem.W.nsIn K mainGlobals "zip" = some none)
    (z_range : PySem.W.nsIn K mainGlobals "range" = some none)
    (z_abs : PySem.W.nsIn K mainGlobals "abs" = some none)
    (z_min : PySem.W.nsIn K mainGlobals "min" = some none)
    (z_dict : PySem.W.nsIn K mainGlobals "dict" = some none)
    (z_max : PySem.W.nsIn K mainGlobals "max" = some none)
    : ∃ fd : FuncData, (∀ (s : Shared) (v : Value), BindsTo s fd ⟨[v], []⟩ [("_law_script", v)]) ∧ ∀ base : Heap, K.In base → base.Ns mainGlobals mg → FnOk l.prog w K mg base CX0 9 fa fd ["_law_script"] (spLaw K) := by
  have e := hfa.symm.trans (PySem.W.mg_of X G a_law)
  cases e
  have F_is_integer := fun_mk (st := s_is_integer) l_is_integer c_is_integer k_is_integer
  have b_is_integer := F_is_integer.binds (ps := P_is_integer) fun _ _ _ _ _ _ us hl => match us, hl with | [_], _ => rfl
  have F_is_between := fun_mk (st := s_is_between) l_is_between c_is_between k_is_between
  have b_is_between := F_is_between.binds (ps := P_is_between) fun _ _ _ _ _ _ us hl => match us, hl with | [_, _, _], _ => rfl
  have F_is_below := fun_mk (st := s_is_below) l_is_below c_is_below k_is_below
  have b_is_below := F_is_below.binds (ps := P_is_below) fun _ _ _ _ _ _ us hl => match us, hl with | [_, _], _ => rfl
  have F_is_tuple_of := fun_mk (st := s_is_tuple_of) l_is_tuple_of c_is_tuple_of k_is_tuple_of
  have b_is_tuple_of := F_is_tuple_of.binds (ps := P_is_tuple_of) fun _ _ _ _ _ _ us hl => match us, hl with | [_, _, _], _ => rfl
  have F_are_below := fun_mk (st := s_are_below) l_are_below c_are_below k_are_below
  have b_are_below := F_are_below.binds (ps := P_are_below) fun _ _ _ _ _ _ us hl => match us, hl with | [_, _], _ => rfl
  have F_Record_init := fun_mk (st := s_Record_init) l_Record_init c_Record_init k_Record_init
  have b_Record_init := F_Record_init.binds (ps := P_Record_init) fun _ _ _ _ _ _ us hl => match us, hl with | [_, _, _], _ => rfl
  have F_Record_eq := fun_mk (st := s_Record_eq) l_Record_eq c_Record_eq k_Record_eq
  have b_Record_eq := F_Record_eq.binds (ps := P_Record_eq) fun _ _ _ _ _ _ us hl => match us, hl with | [_, _], _ => rfl
  have F_check_record := fun_mk (st := s_check_record) l_check_record c_check_record k_check_record
  have b_check_record := F_check_record.binds (ps := P_check_record) fun _ _ _ _ _ _ us hl => match us, hl with | [_, _], _ => rfl
  have F_is_diary := fun_mk (st := s_is_diary) l_is_diary c_is_diary k_is_diary
  have b_is_diary := F_is_diary.binds (ps := P_is_diary) fun _ _ _ _ _ _ us hl => match us, hl with | [_, _], _ => rfl
  have F_check_put := fun_mk (st := s_check_put) l_check_put c_check_put k_check_put
  have b_check_put := F_check_put.binds (ps := P_check_put) fun _ _ _ _ _ _ us hl => match us, hl with | [_, _], _ => rfl
  have F_ahead := fun_mk (st := s_ahead) l_ahead c_ahead k_ahead
  have b_ahead := F_ahead.binds (ps := P_ahead) fun _ _ _ _ _ _ us hl => match us, hl with | [_, _, _], _ => rfl
  have F_is_whole := fun_mk (st := s_is_whole) l_is_whole c_is_whole k_is_whole
  have b_is_whole := F_is_whole.binds (ps := P_is_whole) fun _ _ _ _ _ _ us hl => match us, hl with | [_], _ => rfl
  have F__law_hand := fun_mk (st := s__law_hand) l__law_hand c__law_hand k__law_hand
  have b__law_hand := F__law_hand.binds (ps := P__law_hand) fun _ _ _ _ _ _ us hl => match us, hl with | [_], _ => rfl
  have F__law_draw := fun_mk (st := s__law_draw) l__law_draw c__law_draw k__law_draw
  have b__law_draw := F__law_draw.binds (ps := P__law_draw) fun _ _ _ _ _ _ us hl => match us, hl with | [_, _], _ => rfl
  have F__law_is := fun_mk (st := s__law_is) l__law_is c__law_is k__law_is
  have b__law_is := F__law_is.binds (ps := P__law_is) fun _ _ _ _ _ _ us hl => match us, hl with | [_, _], _ => rfl
  have F__law_flag := fun_mk (st := s__law_flag) l__law_flag c__law_flag k__law_flag
  have b__law_flag := F__law_flag.binds (ps := P__law_flag) fun _ _ _ _ _ _ us hl => match us, hl with | [_, _], _ => rfl
  have F__law_web := fun_mk (st := s__law_web) l__law_web c__law_web k__law_web
  have b__law_web := F__law_web.binds (ps := P__law_web) fun _ _ _ _ _ _ us hl => match us, hl with | [_, _], _ => rfl
  have F__law_ran := fun_mk (st := s__law_ran) l__law_ran c__law_ran k__law_ran
  have b__law_ran := F__law_ran.binds (ps := P__law_ran) fun _ _ _ _ _ _ us hl => match us, hl with | [_, _, _, _, _], _ => rfl
  have F__law_bent := fun_mk (st := s__law_bent) l__law_bent c__law_bent k__law_bent
  have b__law_bent := F__law_bent.binds (ps := P__law_bent) fun _ _ _ _ _ _ us hl => match us, hl with | [_, _, _], _ => rfl
  have F__law_parts := fun_mk (st := s__law_parts) l__law_parts c__law_parts k__law_parts
  have b__law_parts := F__law_parts.binds (ps := P__law_parts) fun _ _ _ _ _ _ us hl => match us, hl with | [_, _, _], _ => rfl
  have F__law_all_told := fun_mk (st := s__law_all_told) l__law_all_told c__law_all_told k__law_all_told
  have b__law_all_told := F__law_all_told.binds (ps := P__law_all_told) fun _ _ _ _ _ _ us hl => match us, hl with | [_, _, _], _ => rfl
  have F_law := fun_mk (st := s_law) l_law c_law k_law
  have b_law := F_law.binds (ps := P_law) fun _ _ _ _ _ _ us hl => match us, hl with | [_], _ => rfl
  have T : Txt K mg ⟨ff_is_integer, _, ff_is_between, _, ff_is_below, _, ff_is_tuple_of, _, ff_are_below, _, ff_Record_init, _, ff_Record_eq, _, ff_check_record, _, ff_is_diary, _, ff_check_put, _, ff_ahead, _, ff_is_whole, _, ff__law_hand, _, ff__law_draw, _, ff__law_is, _, ff__law_flag, _, ff__law_web, _, ff__law_ran, _, ff__law_bent, _, ff__law_parts, _, ff__law_all_told, _, fa, _, C_Record, tk_MOST_MACHINES, tk_MOST_PUTS⟩ := ⟨F_is_integer,
    b_is_integer,
    PySem.W.mg_of X G a_is_integer,
    F_is_between,
    b_is_between,
    PySem.W.mg_of X G a_is_between,
    F_is_below,
    b_is_below,
    PySem.W.mg_of X G a_is_below,
    F_is_tuple_of,
    b_is_tuple_of,
    PySem.W.mg_of X G a_is_tuple_of,
    F_are_below,
    b_are_below,
    PySem.W.mg_of X G a_are_below,
    F_Record_init,
    b_Record_init,
    F_Record_eq,
    b_Record_eq,
    F_check_record,
    b_check_record,
    PySem.W.mg_of X G a_check_record,
    F_is_diary,
    b_is_diary,
    PySem.W.mg_of X G a_is_diary,
    F_check_put,
    b_check_put,
    PySem.W.mg_of X G a_check_put,
    F_ahead,
    b_ahead,
    PySem.W.mg_of X G a_ahead,
    F_is_whole,
    b_is_whole,
    PySem.W.mg_of X G a_is_whole,
    F__law_hand,
    b__law_hand,
    PySem.W.mg_of X G a__law_hand,
    F__law_draw,
    b__law_draw,
    PySem.W.mg_of X G a__law_draw,
    F__law_is,
    b__law_is,
    PySem.W.mg_of X G a__law_is,
    F__law_flag,
    b__law_flag,
    PySem.W.mg_of X G a__law_flag,
    F__law_web,
    b__law_web,
    PySem.W.mg_of X G a__law_web,
    F__law_ran,
    b__law_ran,
    PySem.W.mg_of X G a__law_ran,
    F__law_bent,
    b__law_bent,
    PySem.W.mg_of X G a__law_bent,
    F__law_parts,
    b__law_parts,
    PySem.W.mg_of X G a__law_parts,
    F__law_all_told,
    b__law_all_told,
    PySem.W.mg_of X G a__law_all_told,
    F_law,
    b_law,
    PySem.W.mg_of X G a_law,
    PySem.W.mg_of X G aC_Record,
    ⟨pg_Record, hd_Record, po_Record, sa_Record⟩,
    ⟨mk_Record, a_Record_init, i_Record_init, kc_Record⟩,
    ⟨⟨pg_Record, hd_Record, po_Record, sa_Record⟩, ha_Record, hn_Record, ht_Record, hm_Record, (by unfold PySem.W.kitOne; simp)⟩,
    a_Record_eq,
    i_Record_eq,
    hne_Record,
    na_Record_writers,
    na_Record_diaries,
    PySem.W.mg_of X G co_MOST_MACHINES,
    PySem.W.mg_of X G co_MOST_PUTS,
    PySem.W.mg_none_of X G z_isinstance,
    PySem.W.mg_none_of X G z_int,
    PySem.W.mg_none_of X G z_bool,
    PySem.W.mg_none_of X G z_tuple,
    PySem.W.mg_none_of X G z_len,
    PySem.W.mg_none_of X G z_all,
    PySem.W.mg_none_of X G z_enumerate,
    PySem.W.mg_none_of X G z_set,
    PySem.W.mg_none_of X G z_sorted,
    PySem.W.mg_none_of X G z_list,
    PySem.W.mg_none_of X G z_zip,
    PySem.W.mg_none_of X G z_range,
    PySem.W.mg_none_of X G z_abs,
    PySem.W.mg_none_of X G z_min,
    PySem.W.mg_none_of X G z_dict,
    PySem.W.mg_none_of X G z_max⟩
  exact ⟨PySem.W.fnOf "law" "law" (defArgs s_law) (defBody s_law) (defScope s_law) .none kV_law dc_law pm_law an_law cd_law ct_law, fun s v => .of_eq rfl, fun base _ _ => ok_law T⟩
theorem walk {l : PySem.W.OpenLaw} {q : Program} {loose : List Str} {XP : (Str → Option Value) → Heap → Prop} {YP : World → Heap → Prop} {d : DefRec} {K : Params → PySem.W.Frag} (hn : l.most = some 63) (hdf : d.params.defaults = [])
    (hY : ∀ (w : World) (h : Heap), YP w h → (K w.params).In h)
    (F : ∀ (w : World) (mg : Str → Option Value) (fa : Addr) (h : Heap), (K w.params).In h → h.Ns mainGlobals mg → mg d.name = some (.ref fa) →
      ∃ fd : FuncData, (∀ (s : Shared) (u : Value), BindsTo s fd ⟨[u], []⟩ [("_law_script", u)]) ∧ ∀ base : Heap, (K w.params).In base → base.Ns mainGlobals mg → FnOk l.prog w (K w.params) mg base CX0 9 fa fd ["_law_script"] (spLaw (K w.params))) :
    PySem.W.WalkO q loose XP YP l.row.toRowW d [] (fun f vs => PySem.call f vs) :=
  L2.walk_of (n := 63) (k := 9) (x := "_law_script") (CX := fun _ => CX0) (sp := fun w => spLaw (K w.params)) hn (by decide) hdf ⟨rfl, by decide, by decide⟩ hY F (fun _ _ a ns hl _ hS => ⟨a, ns, rfl, hS, hl, fun _ => rfl⟩) fun _ _ _ _ _ z => z
end Mine
/-! ## KZ -/
open PySem PySem.W PyProof.Rows in
set_option maxRecDepth 100000 in
set_option maxHeartbeats 0 in
theorem PySem.Challenge.cw_growalong_k05_whole_what_was_ahead_holds : PySem.Challenge.rw_growalong_k05_whole_what_was_ahead.Holds := by
  w_on; o_law; k_head; (case hw => w_witness2)
  k_fill
  refine Mine.walk (l := PySem.Challenge.rw_growalong_k05_whole_what_was_ahead) rfl rfl (fun w h Y => PySem.W.kIn_of Y) ?F
  case F =>
    intro w mg fa h KX G hmg
    refine' Mine.all_mk KX G hmg ?aC_Record ?a_is_integer ?l_is_integer ?c_is_integer ?k_is_integer ?a_is_between ?l_is_between ?c_is_between ?k_is_between ?a_is_below ?l_is_below ?c_is_below ?k_is_below ?a_is_tuple_of ?l_is_tuple_of ?c_is_tuple_of ?k_is_tuple_of ?a_are_below ?l_are_below ?c_are_below ?k_are_below ?a_Record_init ?i_Record_init ?l_Record_init ?c_Record_init ?k_Record_init ?a_Record_eq ?i_Record_eq ?l_Record_eq ?c_Record_eq ?k_Record_eq ?a_check_record ?l_check_record ?c_check_record ?k_check_record ?a_is_diary ?l_is_diary ?c_is_diary ?k_is_diary ?a_check_put ?l_check_put ?c_check_put ?k_check_put ?a_ahead ?l_ahead ?c_ahead ?k_ahead ?a_is_whole ?l_is_whole ?c_is_whole ?k_is_whole ?a__law_hand ?l__law_hand ?c__law_hand ?k__law_hand ?a__law_draw ?l__law_draw ?c__law_draw ?k__law_draw ?a__law_is ?l__law_is ?c__law_is ?k__law_is ?a__law_flag ?l__law_flag ?c__law_flag ?k__law_flag ?a__law_web ?l__law_web ?c__law_web ?k__law_web ?a__law_ran ?l__law_ran ?c__law_ran ?k__law_ran ?a__law_bent ?l__law_bent ?c__law_bent ?k__law_bent ?a__law_parts ?l__law_parts ?c__law_parts ?k__law_parts ?a__law_all_told ?l__law_all_told ?c__law_all_told ?k__law_all_told ?a_law ?l_law ?c_law ?k_law ?pg_Record ?hd_Record ?po_Record ?sa_Record ?mk_Record ?kc_Record ?ha_Record ?hn_Record ?ht_Record ?hm_Record ?hne_Record ?na_Record_writers ?na_Record_diaries ?co_MOST_MACHINES ?co_MOST_PUTS ?z_isinstance ?z_int ?z_bool ?z_tuple ?z_len ?z_all ?z_enumerate ?z_set ?z_sorted ?z_list ?z_zip ?z_range ?z_abs ?z_min ?z_dict ?z_max
    (case aC_Record => k_is)
    (case a_is_integer => k_is)
    (case l_is_integer => k_is)
    (case c_is_integer => k_is)
    (case k_is_integer => k_is)
    (case a_is_between => k_is)
    (case l_is_between => k_is)
    (case c_is_between => k_is)
    (case k_is_between => k_is)
    (case a_is_below => k_is)
    (case l_is_below => k_is)
    (case c_is_below => k_is)
    (case k_is_below => k_is)
    (case a_is_tuple_of => k_is)
    (case l_is_tuple_of => k_is)
    (case c_is_tuple_of => k_is)
    (case k_is_tuple_of => k_is)
    (case a_are_below => k_is)
    (case l_are_below => k_is)
    (case c_are_below => k_is)
    (case k_are_below => k_is)
    (case a_Record_init => k_is)
    (case i_Record_init => k_is)
    (case l_Record_init => k_is)
    (case c_Record_init => k_is)
    (case k_Record_init => k_is)
    (case a_Record_eq => k_is)
    (case i_Record_eq => k_is)
    (case l_Record_eq => k_is)
    (case c_Record_eq => k_is)
    (case k_Record_eq => k_is)
    (case a_check_record => k_is)
    (case l_check_record => k_is)
    (case c_check_record => k_is)
    (case k_check_record => k_is)
    (case a_is_diary => k_is)
    (case l_is_diary => k_is)
    (case c_is_diary => k_is)
    (case k_is_diary => k_is)
    (case a_check_put => k_is)
    (case l_check_put => k_is)
    (case c_check_put => k_is)
    (case k_check_put => k_is)
    (case a_ahead => k_is)
    (case l_ahead => k_is)
    (case c_ahead => k_is)
    (case k_ahead => k_is)
    (case a_is_whole => k_is)
    (case l_is_whole => k_is)
    (case c_is_whole => k_is)
    (case k_is_whole => k_is)
    (case a__law_hand => k_is)
    (case l__law_hand => k_is)
    (case c__law_hand => k_is)
    (case k__law_hand => k_is)
    (case a__law_draw => k_is)
    (case l__law_draw => k_is)
    (case c__law_draw => k_is)
    (case k__law_draw => k_is)
    (case a__law_is => k_is)
    (case l__law_is => k_is)
    (case c__law_is => k_is)
    (case k__law_is => k_is)
    (case a__law_flag => k_is)
    (case l__law_flag => k_is)
    (case c__law_flag => k_is)
    (case k__law_flag => k_is)
    (case a__law_web => k_is)
    (case l__law_web => k_is)
    (case c__law_web => k_is)
    (case k__law_web => k_is)
    (case a__law_ran => k_is)
    (case l__law_ran => k_is)
    (case c__law_ran => k_is)
    (case k__law_ran => k_is)
    (case a__law_bent => k_is)
    (case l__law_bent => k_is)
    (case c__law_bent => k_is)
    (case k__law_bent => k_is)
    (case a__law_parts => k_is)
    (case l__law_parts => k_is)
    (case c__law_parts => k_is)
    (case k__law_parts => k_is)
    (case a__law_all_told => k_is)
    (case l__law_all_told => k_is)
    (case c__law_all_told => k_is)
    (case k__law_all_told => k_is)
    (case a_law => k_is)
    (case l_law => k_is)
    (case c_law => k_is)
    (case k_law => k_is)
    (case pg_Record => k_is)
    (case hd_Record => k_is)
    (case po_Record => k_is)
    (case sa_Record => k_is)
    (case mk_Record => k_is)
    (case kc_Record => k_is)
    (case ha_Record => k_is)
    (case hn_Record => k_is)
    (case ht_Record => k_is)
    (case hm_Record => k_is)
    (case hne_Record => k_is)
    (case na_Record_writers => k_is)
    (case na_Record_diaries => k_is)
    (case co_MOST_MACHINES => k_is)
    (case co_MOST_PUTS => k_is)
    (case z_isinstance => k_is)
    (case z_int => k_is)
    (case z_bool => k_is)
    (case z_tuple => k_is)
    (case z_len => k_is)
    (case z_all => k_is)
    (case z_enumerate => k_is)
    (case z_set => k_is)
    (case z_sorted => k_is)
    (case z_list => k_is)
    (case z_zip => k_is)
    (case z_range => k_is)
    (case z_abs => k_is)
    (case z_min => k_is)
    (case z_dict => k_is)
    (case z_max => k_is)

import PyProof.Rows.All
import Wide.All
import OpenK.AllK
import Wide.FinOn
import HandS.ForMost
import HandS.Deep
import HandS.IsInst
import HandS.TupLe
import HandS.TupAny
import HandS.TupSets
import HandS.Style
import HandS.Zip
import HandS.More
import HandS.SortInts
import HandS.Codes
import HandS.Walk
import HandS.Iter
import KE.GoesEnum
import PyProof.Rows.SortShell
import HandS.Conv
import HandS.SetKeys
import PySem.Challenge.RW_growalong_k03_whole_who_reaches_whom
set_option Elab.async false
set_option linter.all false
set_option maxRecDepth 100000
set_option maxHeartbeats 4000000
/-! ## GA -/
namespace GA
open PySem L2

/-! ### heaps: what stays -/
/-- tuples stay -/
def Ts (H H' : Hp) : Prop := ∀ a xs, Rd H a (.tup xs) → Rd H' a (.tup xs)
/-- the hand of draws: a list at hd whose first item is the list of ints at c -/
def Hand (H : Hp) (hd c : Addr) : Prop := c ≠ hd ∧ (∃ ns : List Int, H c = some (.lst (ns.map V.int))) ∧ ∃ (i b m k : Int), H hd = some (.lst [.ref c, .int i, .int b, .int m, .int k]) ∧ 0 ≤ i
/-- all that stood stands, but for the hand's own list -/
structure G (o : Option (Addr × Addr)) (H H' : Hp) : Prop where
  keep : ∀ a u, (∀ p, o = some p → a ≠ p.1) → H a = some u → H' a = some u
  tups : Ts H H'
  hand : ∀ p, o = some p → Hand H p.1 p.2 → Hand H' p.1 p.2
theorem G.refl {o : Option (Addr × Addr)} {H : Hp} : G o H H := ⟨fun _ _ _ h => h, fun _ _ h => h, fun _ _ h => h⟩
theorem G.trans {o : Option (Addr × Addr)} {H H1 H2 : Hp} (a : G o H H1) (b : G o H1 H2) : G o H H2 :=
  ⟨fun x u n h => b.keep x u n (a.keep x u n h), fun x xs h => b.tups x xs (a.tups x xs h), fun p e h => b.hand p e (a.hand p e h)⟩
theorem G.all {H H' : Hp} (g : G none H H') (a : Addr) (u : HO) (h : H a = some u) : H' a = some u := g.keep a u (fun p e => nomatch e) h
theorem G.of_all {o : Option (Addr × Addr)} {H H' : Hp} (k : ∀ a u, H a = some u → H' a = some u) : G o H H' :=
  ⟨fun a u _ h => k a u h, fun a xs h => h.elim (fun h => .inl (k _ _ h)) fun ⟨ob, h⟩ => .inr ⟨ob, k _ _ h⟩,
    fun p _ ⟨n, ⟨ns, h1⟩, i, b, m, z, h2, h3⟩ => ⟨n, ⟨ns, k _ _ h1⟩, i, b, m, z, k _ _ h2, h3⟩⟩
theorem G.up {o : Option (Addr × Addr)} {H H' : Hp} (g : G none H H') : G o H H' := G.of_all g.all
theorem G.alloc {o : Option (Addr × Addr)} {H : Hp} {p : Addr} {u : HO} (h : H p = none) : G o H (upd H p u) := G.of_all fun a w e => by
  rw [upd_ne (ne_of_none e h)]; exact e
/-- a thing that H does not know is changed -/
theorem G.mut {o : Option (Addr × Addr)} {H H' : Hp} {l : Addr} {u : HO} (g : G o H H') (h : H l = none) (hh : ∀ p, o = some p → Hand H p.1 p.2) : G o H (upd H' l u) := by
  refine ⟨fun a w n e => ?_, fun a xs e => ?_, fun p e x => ?_⟩
  · rw [upd_ne (ne_of_none e h)]; exact g.keep a w n e
  · have ne : a ≠ l := by
      rcases e with e | ⟨ob, e⟩ <;> exact ne_of_none e h
    rcases g.tups a xs e with q | ⟨ob, q⟩
    · exact .inl (by rw [upd_ne ne]; exact q)
    · exact .inr ⟨ob, by rw [upd_ne ne]; exact q⟩
  · obtain ⟨n0, ⟨ns0, h0⟩, i0, b0, m0, k0, h1, _⟩ := hh p e
    obtain ⟨n, ⟨ns, h2⟩, i, b, m, k, h3, h4⟩ := g.hand p e x
    exact ⟨n, ⟨ns, by rw [upd_ne (ne_of_none h0 h)]; exact h2⟩, i, b, m, k, by rw [upd_ne (ne_of_none h1 h)]; exact h3, h4⟩
theorem Hand.ne {H : Hp} {hd c l : Addr} (x : Hand H hd c) (h : H l = none) : l ≠ hd := fun e => by
  obtain ⟨_, _, _, _, _, _, h1, _⟩ := x
  rw [← e, h] at h1; cases h1
/-- an address that is not the hand's -/
def Off (o : Option (Addr × Addr)) (a : Addr) : Prop := ∀ p, o = some p → a ≠ p.1
theorem off_none {a : Addr} : Off none a := fun _ e => nomatch e
theorem off_new {hd c l : Addr} {H : Hp} (x : Hand H hd c) (h : H l = none) : Off (some (hd, c)) l := fun p e => by cases e; exact x.ne h
theorem off_ins {hd c a C dx : Addr} {fs : List (Str × V)} {H : Hp} (x : Hand H hd c) (h : H a = some (.ins C dx fs)) : Off (some (hd, c)) a := fun p e => by
  cases e
  obtain ⟨_, _, _, _, _, _, h1, _⟩ := x
  exact ne_of h h1 (by intro z; cases z)
theorem off_dK {hd c a : Addr} {kvs : List (Key × V)} {H : Hp} (x : Hand H hd c) (h : H a = some (.dK kvs)) : Off (some (hd, c)) a := fun p e => by
  cases e
  obtain ⟨_, _, _, _, _, _, h1, _⟩ := x
  exact ne_of h h1 (by intro z; cases z)

/-! ### data without lists -/
mutual
def nl : PyData → Bool
  | .list _ => false
  | .dict _ => false
  | .tuple ds => nls ds
  | .none => true
  | .bool _ => true
  | .int _ => true
  | .str _ => true
def nls : List PyData → Bool
  | [] => true
  | d :: ds => nl d && nls ds
end
theorem nls_iff : ∀ {ds : List PyData}, nls ds = true ↔ ∀ d ∈ ds, nl d = true
  | [] => by simp [nls]
  | d :: ds => by simp [nls, nls_iff (ds := ds)]
section
variable {K : PySem.W.Frag} {H H' : Hp}
theorem sqT_t (t : Ts H H') {a : Addr} {xs : List V} (h : SqT K H a xs) : SqT K H' a xs := h.elim (fun h => .inl (t _ _ h)) .inr
mutual
theorem dp_t (t : Ts H H') : ∀ (d : PyData) (v : V), nl d = true → Dp K H v d → Dp K H' v d
  | .none, _, _, h => by cases h; exact .non
  | .bool b, _, _, h => by cases h; exact .bl b
  | .int i, _, _, h => by cases h; exact .int i
  | .str x, _, _, h => by cases h; exact .str x
  | .list ds, _, n, _ => by simp [nl] at n
  | .dict ds, _, n, _ => by simp [nl] at n
  | .tuple ds, _, n, h => by
    cases h with
    | tup hs ha => exact .tup (sqT_t t hs) (dpAll_t t ds _ (by simpa [nl] using n) ha)
theorem dpAll_t (t : Ts H H') : ∀ (ds : List PyData) (vs : List V), nls ds = true → DpAll K H vs ds → DpAll K H' vs ds
  | [], _, _, h => by cases h; exact .nil
  | d :: ds, _, n, h => by
    cases h with
    | cons h1 h2 =>
      have n' : nl d = true ∧ nls ds = true := by simpa [nls] using n
      exact .cons (dp_t t d _ n'.1 h1) (dpAll_t t ds _ n'.2 h2)
end
theorem DpAll.length : ∀ {vs : List V} {ds : List PyData}, DpAll K H vs ds → vs.length = ds.length
  | _, _, .nil => rfl
  | _, _, .cons _ t => by simp [DpAll.length t]
theorem DpAll.get : ∀ {vs : List V} {ds : List PyData} {i : Nat} {v : V}, DpAll K H vs ds → vs[i]? = some v → ∃ d, ds[i]? = some d ∧ Dp K H v d
  | _, _, _, _, .nil, e => by simp at e
  | _, _, 0, _, .cons h _, e => by simp at e; subst e; exact ⟨_, rfl, h⟩
  | _, _, i + 1, v, .cons _ t, e => by
    obtain ⟨d, h1, h2⟩ := DpAll.get (i := i) (v := v) t (by simpa using e)
    exact ⟨d, by simpa using h1, h2⟩
theorem DpAll.get' : ∀ {vs : List V} {ds : List PyData} {i : Nat} {d : PyData}, DpAll K H vs ds → ds[i]? = some d → ∃ v, vs[i]? = some v ∧ Dp K H v d
  | _, _, _, _, .nil, e => by simp at e
  | _, _, 0, _, .cons h _, e => by simp at e; subst e; exact ⟨_, rfl, h⟩
  | _, _, i + 1, d, .cons _ t, e => by
    obtain ⟨v, h1, h2⟩ := DpAll.get' (i := i) (d := d) t (by simpa using e)
    exact ⟨v, by simpa using h1, h2⟩
theorem DpAll.app : ∀ {vs ws : List V} {ds es : List PyData}, DpAll K H vs ds → DpAll K H ws es → DpAll K H (vs ++ ws) (ds ++ es)
  | _, _, _, _, .nil, h => h
  | _, _, _, _, .cons h t, h' => .cons h (DpAll.app t h')
theorem DpAll.one {v : V} {d : PyData} (h : Dp K H v d) : DpAll K H [v] [d] := .cons h .nil
theorem DpAll.ints : ∀ (ns : List Int), DpAll K H (ns.map V.int) (ns.map PyData.int)
  | [] => .nil
  | n :: ns => .cons (.int n) (DpAll.ints ns)
theorem DpAll.of_ints : ∀ {ns : List Int} {vs : List V}, DpAll K H vs (ns.map PyData.int) → vs = ns.map V.int
  | [], _, .nil => rfl
  | n :: ns, _, .cons h t => by cases h; rw [DpAll.of_ints t]; rfl
end
/-- a tuple of ints, a pair, a tuple of pairs -/
abbrev dI (ns : List Int) : PyData := .tuple (ns.map PyData.int)
abbrev dP (w : Int × Int) : PyData := .tuple [.int w.1, .int w.2]
abbrev dW (ws : List (Int × Int)) : PyData := .tuple (ws.map dP)
theorem nls_ints (ns : List Int) : nls (ns.map PyData.int) = true := by rw [nls_iff]; intro d h; simp only [List.mem_map] at h; obtain ⟨n, _, rfl⟩ := h; rfl
theorem nls_pairs (ws : List (Int × Int)) : nls (ws.map dP) = true := by rw [nls_iff]; intro d h; simp only [List.mem_map] at h; obtain ⟨n, _, rfl⟩ := h; rfl
theorem nl_dI (ns : List Int) : nl (dI ns) = true := by show nls _ = true; exact nls_ints ns
theorem nl_dP (w : Int × Int) : nl (dP w) = true := rfl
theorem nl_dW (ws : List (Int × Int)) : nl (dW ws) = true := by show nls _ = true; exact nls_pairs ws
section
variable {K : PySem.W.Frag} {H H' : Hp}
theorem dp_dI {v : V} {ns : List Int} (h : Dp K H v (dI ns)) : ∃ a, v = .ref a ∧ SqT K H a (ns.map V.int) := by
  cases h with
  | tup hs ha => exact ⟨_, rfl, by rw [← DpAll.of_ints ha]; exact hs⟩
theorem dp_dP {v : V} {w : Int × Int} (h : Dp K H v (dP w)) : ∃ a, v = .ref a ∧ SqT K H a [.int w.1, .int w.2] := by
  cases h with
  | tup hs ha =>
    cases ha with
    | cons h1 t =>
      cases t with
      | cons h2 t =>
        cases t; cases h1; cases h2
        exact ⟨_, rfl, hs⟩
theorem dp_tup {v : V} {ds : List PyData} (h : Dp K H v (.tuple ds)) : ∃ a vs, v = .ref a ∧ SqT K H a vs ∧ DpAll K H vs ds := by
  cases h with
  | tup hs ha => exact ⟨_, _, rfl, hs, ha⟩
theorem dp_ofI {a : Addr} {ns : List Int} (h : SqT K H a (ns.map V.int)) : Dp K H (.ref a) (dI ns) := .tup h (DpAll.ints ns)
theorem dp_ofP {a : Addr} {i j : Int} (h : SqT K H a [.int i, .int j]) : Dp K H (.ref a) (dP (i, j)) := .tup h (.cons (.int i) (.cons (.int j) .nil))
end

/-! ### steps: a reading by its first part -/
section
variable {K : PySem.W.Frag} {σ : L2.St} {H : Hp} {Q : VK} {QB : Bool → Hp → Prop} {D : Ends} {ta tb tc te : TE} {t u : TT} {ts tu : TS} {r r' : R2} {v x y : V} {i j : Int} {n : Nat} {b : Bool} {A B : Prop}
theorem w_var {i : Nat} (h : σ[i]? = some (some v)) (q : Q v H) : tVar i σ H Q := ⟨v, h, q⟩
theorem w_c (q : Q v H) : tC v σ H Q := q
theorem w_op (q : ta σ H fun x H1 => tb σ H1 fun y H2 => r x y H2 Q) : tOp r ta tb σ H Q := q
theorem w_un {f : V → Hp → VK → Prop} (q : ta σ H fun x H1 => f x H1 Q) : tUn f ta σ H Q := q
theorem w_seq (q : ts { D with nx := tu D } σ H) : tSeq ts tu D σ H := q
theorem w_next (q : D.nx σ H) : tNext D σ H := q
theorem w_break (q : D.bk σ H) : tBreak D σ H := q
theorem w_set {i : Nat} (q : te σ H fun x H1 => D.nx (σ.set i (some x)) H1) : tAsg te (gName i) D σ H := q
theorem w_asg {g : TG} (q : te σ H fun x H1 => g x σ H1 D.nx) : tAsg te g D σ H := q
theorem w_drop (q : te σ H fun _ H1 => D.nx σ H1) : tDrop te D σ H := q
theorem w_ret (q : te σ H D.rt) : tRet te D σ H := q
theorem w_retN (q : D.rt .non H) : tRetN D σ H := q
theorem w_ifS (q : t σ H fun b H1 => if b = true then ts D σ H1 else tu D σ H1) : tIfS t ts tu D σ H := q
theorem w_test (q : te σ H fun x H' => ∃ k, x = .bl k ∧ QB k H') : tTest te σ H QB := q
theorem w_tB (q : te σ H fun x H' => ∃ k, x = .bl k ∧ QB k H') : tB te σ H QB := q
theorem w_bl (q : QB b H) : ∃ k, V.bl b = .bl k ∧ QB k H := ⟨b, rfl, q⟩
theorem w_not (q : t σ H fun c H1 => QB (!c) H1) : tNot t σ H QB := q
theorem w_and (q : t σ H fun c H1 => if c = true then u σ H1 QB else QB false H1) : tAnd t u σ H QB := q
theorem w_or (q : t σ H fun c H1 => if c = true then QB true H1 else u σ H1 QB) : tOr t u σ H QB := q
theorem w_andV (q : ta σ H fun x H1 => ∃ c, x = .bl c ∧ if c = true then tb σ H1 Q else Q (.bl false) H1) : tAndV ta tb σ H Q := q
theorem w_orV (q : ta σ H fun x H1 => ∃ c, x = .bl c ∧ if c = true then Q (.bl true) H1 else tb σ H1 Q) : tOrV ta tb σ H Q := q
theorem w_notV (q : ta σ H fun x H1 => ∃ c, x = .bl c ∧ Q (.bl (!c)) H1) : tNotV ta σ H Q := q
theorem w_if (q : t σ H fun c H1 => if c = true then ta σ H1 Q else tb σ H1 Q) : tIf t ta tb σ H Q := q
theorem w_blc {F : Bool → Prop} (q : F b) : ∃ c, V.bl b = .bl c ∧ F c := ⟨b, rfl, q⟩
theorem w_nil {QA : List V → Hp → Prop} (q : QA [] H) : tNil σ H QA := q
theorem w_cons {tr : TA} {QA : List V → Hp → Prop} (q : te σ H fun x H1 => tr σ H1 fun xs H2 => QA (x :: xs) H2) : tCons te tr σ H QA := q
theorem w_CB {f : List V → Hp → VK → Prop} {tr : TA} (q : tr σ H fun vs H1 => f vs H1 Q) : tCB f tr σ H Q := q
theorem w_call {sp : Sp} {E : XK} {tr : TA} (q : tr σ H fun vs H1 => sp (vs ++ []) H1 Q E) : tCall sp [] E tr σ H Q := q
theorem w_tup {tr : TA} (q : tr σ H fun xs H1 => xs.length ≤ sizeLine ∧ ∀ p, H1 p = none → Q (.ref p) (upd H1 p (.tup xs))) : tTup tr σ H Q := q
theorem w_lst {tr : TA} (q : tr σ H fun xs H1 => xs.length ≤ sizeLine ∧ ∀ p, H1 p = none → Q (.ref p) (upd H1 p (.lst xs))) : tLst tr σ H Q := q
theorem w_chain (q : ta σ H fun x H1 => tb σ H1 fun y H2 => r x y H2 fun z H3 => ∃ k, z = .bl k ∧ (if k = true then tc σ H3 fun w' H4 => r' y w' H4 Q else Q (.bl false) H3)) : tChain r r' ta tb tc σ H Q := q
theorem w_sl {f : V → Option Int → Option Int → Hp → VK → Prop} {tl th : TO} (q : te σ H fun x H1 => tl σ H1 fun l H2 => th σ H2 fun u H3 => f x l u H3 Q) : tSl f te tl th σ H Q := q
theorem w_part {QO : Option Int → Hp → Prop} (q : te σ H fun x H1 => ∃ i, x = .int i ∧ QO (some i) H1) : tPart te σ H QO := q
theorem w_noPart {QO : Option Int → Hp → Prop} (q : QO none H) : tNoPart σ H QO := q
theorem w_inti {F : Int → Prop} (q : F i) : ∃ k, V.int i = .int k ∧ F k := ⟨i, rfl, q⟩
theorem w_fld {f : Str} (q : te σ H fun x H1 => ∃ a C dx fs v, x = .ref a ∧ H1 a = some (.ins C dx fs) ∧ Cls K C ∧ NoAttr K C f ∧ fs.lookup f = some v ∧ Q v H1) : tFld K te f σ H Q := q
theorem w_sfld {f : Str} (q : tb σ H fun y H1 => ta σ H1 fun x H2 => ∃ a C dx fs, x = .ref a ∧ H2 a = some (.ins C dx fs) ∧ Cls K C ∧ NoAttr K C f ∧ fs.length < 1000 ∧ D.nx σ (upd H2 a (.ins C dx (putF f y fs)))) : sFld K ta tb f D σ H := q
theorem w_gsub {to ti : TE} {s : TSet} {QS : L2.St → Hp → Prop} (q : to σ H fun o H1 => ti σ H1 fun i H2 => s o i v H2 fun H3 => QS σ H3) : gSub to ti s v σ H QS := q
theorem w_gname {i : Nat} {QS : L2.St → Hp → Prop} (q : QS (σ.set i (some v)) H) : gName i v σ H QS := q
/-! by values -/
theorem r_I0 {g : Int → Int → V} (q : Q (g i j) H) : rI0 g (.int i) (.int j) H Q := ⟨i, j, rfl, rfl, q⟩
theorem r_I {C : Int → Int → Prop} {g : Int → Int → V} (c : C i j) (q : Q (g i j) H) : rI C g (.int i) (.int j) H Q := ⟨i, j, rfl, rfl, c, q⟩
theorem r_U {g : Int → V} (q : Q (g i) H) : rU g (.int i) H Q := ⟨i, rfl, q⟩
theorem r_eqI (q : Q (.bl (decide (i = j))) H) : rEq (.int i) (.int j) H Q := ⟨rfl, by
  have e : decide (V.int i = V.int j) = decide (i = j) := by simp
  rw [e]; exact q⟩
theorem r_neI (q : Q (.bl (!decide (i = j))) H) : rNe (.int i) (.int j) H Q := ⟨rfl, by
  have e : decide (V.int i = V.int j) = decide (i = j) := by simp
  rw [e]; exact q⟩
theorem r_eqB {a b : Bool} (q : Q (.bl (decide (a = b))) H) : rEq (.bl a) (.bl b) H Q := ⟨rfl, by
  have e : decide (V.bl a = V.bl b) = decide (a = b) := by simp
  rw [e]; exact q⟩
theorem r_neB {a b : Bool} (q : Q (.bl (!decide (a = b))) H) : rNe (.bl a) (.bl b) H Q := ⟨rfl, by
  have e : decide (V.bl a = V.bl b) = decide (a = b) := by simp
  rw [e]; exact q⟩
theorem r_ixT {p : Addr} {xs : List V} (h : SqT K H p xs) (e : atI xs i = some v) (q : Q v H) : rIxT K (.ref p) (.int i) H Q := ⟨p, xs, i, v, rfl, rfl, h, e, q⟩
theorem r_ixL {p : Addr} {xs : List V} (h : SqL K H p xs) (e : atI xs i = some v) (q : Q v H) : rIxL K (.ref p) (.int i) H Q := ⟨p, xs, i, v, rfl, rfl, h, e, q⟩
theorem w_ite (h1 : b = true → A) (h2 : b = false → B) : if b = true then A else B := by
  cases b with
  | true => exact h1 rfl
  | false => exact h2 rfl
theorem w_newT {o : Option (Addr × Addr)} {xs : List V} (q : ∀ p H1, H p = none → G o H H1 → H1 p = some (.tup xs) → Q (.ref p) H1) (hz : xs.length ≤ 100000 := by simp) : xs.length ≤ sizeLine ∧ ∀ p, H p = none → Q (.ref p) (upd H p (.tup xs)) :=
  ⟨Nat.le_trans hz (by decide), fun p hp => q p _ hp (G.alloc hp) upd_same⟩
theorem w_newL {o : Option (Addr × Addr)} {xs : List V} (q : ∀ p H1, H p = none → G o H H1 → H1 p = some (.lst xs) → Q (.ref p) H1) (hz : xs.length ≤ 100000 := by simp) : xs.length ≤ sizeLine ∧ ∀ p, H p = none → Q (.ref p) (upd H p (.lst xs)) :=
  ⟨Nat.le_trans hz (by decide), fun p hp => q p _ hp (G.alloc hp) upd_same⟩
end
end GA
/-! ## GB -/
namespace PySem
open Sem (wp)
open AutoSeq1 (wpAny_loadPart')
theorem ga_enumerate_newT (l : Addr) (items : Array Value) :
    Meets (Builtin.«enumerate.__new__» ⟨[.type "enumerate", .ref l], []⟩) (fun _ R s => s.heap.IsTuple l items ∧
      R (.ok (.ret (.ref (s.heap.push { cls := .type "tuple_iterator", data := .fields #[.ref l, .int 0 0] }).objs.size)))
        { s with heap := (s.heap.push { cls := .type "tuple_iterator", data := .fields #[.ref l, .int 0 0] }).push { cls := .type "enumerate", data := .fields #[.none, .bool false, .ref s.heap.objs.size, rawInt 0, .none, .none] } }) :=
  .of_wp fun prog w A R s h => by
    obtain ⟨hp, g, d, tk, os⟩ := s; obtain ⟨hl, h⟩ := h
    have hsub := sub_enumerate
    have hL : Heap.IsTuple (Shared.heap ⟨hp, g, d, tk, os⟩) l items := hl
    obtain ⟨ob, hob, _⟩ := id hl
    wp_walk using wpAny_loadPart' hob
    refine wpAny_stack_any fun st => wpAny_pure ?_
    split
    · rename_i c _ _ _ _ _
      cases (c == Value.type "enumerate")
      · wp_walk using wpAny_loadPart' hob, wpAny_pyIter_tuple hL
        exact ⟨_, rfl, h⟩
      · wp_walk using wpAny_loadPart' hob, wpAny_pyIter_tuple hL
        exact ⟨_, rfl, h⟩
    · wp_walk using wpAny_loadPart' hob, wpAny_pyIter_tuple hL
      exact ⟨_, rfl, h⟩
theorem ga_enumerate_tuple {prog : Program} {w : World} {A : Around} {E : Value → Shared → Prop} {s : Shared} {l : Addr} {items : Array Value} {Q : Value → Shared → Prop} (hL : s.heap.IsTuple l items)
    (h : ∀ h', IsEnum h' (s.heap.objs.size + 1) s.heap.objs.size 0 .none → h'.IsTupleIter s.heap.objs.size l 0 → h'.objs.size = s.heap.objs.size + 2 →
      (∀ b o, s.heap.get? b = some o → h'.get? b = some o) → Q (.ref (s.heap.objs.size + 1)) { s with heap := h' }) :
    wpAny (model prog w) A (call (.type "enumerate") [.ref l]) Q E s := by
  refine callType_new F.called_enumerate (by decide) (F.typeCall_enumerate_1 _) (F.newCall_enumerate_1 _) (fun obj => F.args_object_init_2 obj _) F.entry_enumerate_new
    (ga_enumerate_newT l items) ⟨hL, ?_⟩
  have hz : (s.heap.push { cls := .type "tuple_iterator", data := .fields #[.ref l, .int 0 0] }).objs.size = s.heap.objs.size + 1 := Heap.size_push ..
  show _ ∧ _
  rw [hz]
  have he : IsEnum ((s.heap.push { cls := .type "tuple_iterator", data := .fields #[.ref l, .int 0 0] }).push
      { cls := .type "enumerate", data := .fields #[.none, .bool false, .ref s.heap.objs.size, rawInt 0, .none, .none] }) (s.heap.objs.size + 1) s.heap.objs.size 0 .none := by
    have := Heap.get?_push_size (s.heap.push { cls := .type "tuple_iterator", data := .fields #[.ref l, .int 0 0] })
      (o := { cls := .type "enumerate", data := .fields #[.none, .bool false, .ref s.heap.objs.size, rawInt 0, .none, .none] }) rfl
    rw [hz] at this; exact this
  refine ⟨⟨_, he, rfl⟩, h _ he ⟨_, Heap.get?_push_of_some _ (Heap.get?_push_size _ rfl), rfl, rfl⟩ (by rw [Heap.size_push, hz]) fun b o x => Heap.get?_push_of_some _ (Heap.get?_push_of_some _ x)⟩
end PySem
namespace GA
open PySem PySem.Spec PyProof.Rows L2
/-- enumerate over a tuple -/
def IteT (K : PySem.W.Frag) (a : Addr) : It :=
  ⟨fun i H => ∃ (xs : List V) (x : V), SqT K H a xs ∧ xs[i]? = some x, fun i H v H' => ∃ T x, v = .ref T ∧ H T = none ∧ H' = upd H T (.tup [.int (i : Nat), x]) ∧ ∀ xs, SqT K H a xs → xs[i]? = some x, fun i H => ∃ xs : List V, SqT K H a xs ∧ xs.length ≤ i⟩
theorem turn_enumT {P : Program} {w : World} {K : PySem.W.Frag} {elts : List Expr} {kk : Nat} {tpos : Pos} (a e it : Addr) (nai : a ≠ it) (nae : a ≠ e) :
    Turn P w K (.Tuple elts kk tpos) (IteT K a) [e, it] e (fun i h => (∃ old, IsEnum h e it ((i : Nat) : Int) old) ∧ h.IsTupleIter it a i ∧ e ≠ it) where
  mem := by simp
  obj := fun i h st b hb => by
    obtain ⟨⟨old, he⟩, ⟨o, ho, hc, hd⟩, _⟩ := st
    have e' : b = e ∨ b = it := by simpa using hb
    rcases e' with z | z
    · rw [z]; exact ⟨_, he, fun v q => nomatch q⟩
    · rw [z]; exact ⟨o, ho, fun v q => by rw [hd] at q; cases q⟩
  keep := fun i h h' st k => let ⟨⟨old, he⟩, hi, hne⟩ := st; ⟨⟨old, k e (by simp) _ he⟩, hi.at fun o q => k it (by simp) o q, hne⟩
  item := by
    intro X hP hw hK hc i pins s σ H E I hf st hg
    subst hP hw hK
    obtain ⟨⟨old, he⟩, hit, hne⟩ := st
    obtain ⟨xs, x, hq, hx⟩ := hg
    obtain ⟨its, rv, p, hz⟩ := I.tuple hq
    obtain ⟨u, hu, ru⟩ := rv.get hx
    have hel : e < s.heap.objs.size := Heap.lt_size he
    have hil : it < s.heap.objs.size := by obtain ⟨_, q, _⟩ := hit; exact Heap.lt_size q
    have hi : i < its.toArray.size := by
      have := (List.getElem?_eq_some_iff.mp hu).1
      simpa using this
    refine wpAny_pyNext_enum_itemD (Draws.tuple (prog := X.prog) (w := X.w) (A := X.A.in1) (I.ok.hd hc) it a nai its.toArray) he ⟨hit, p⟩ hi hne (by simp [hne, Ne.symm nae]) fun v h' tk hv ho hst hT hsz hk => ?_
    have ev : v = u := by
      have z : its.toArray[i]? = some u := by simpa using hu
      rw [z] at hv; exact (Option.some.inj hv).symm
    subst ev
    refine ⟨_, rfl, wpAny_letOwnedTupleGo_enum (s := { s with heap := h', toks := tk + 1 }) ho fun h'' he' sb => ?_⟩
    have hT2 : h''.get? s.heap.objs.size = some { cls := .type "tuple", data := .seq #[.int i tk, v] } := (sb.2 _ (Nat.ne_of_gt hel)).trans hT
    have new : ObjOk X.prog X.w (upd H s.heap.objs.size (.tup [.int (i : Nat), x])) h'' s.heap.objs.size (.tup [.int (i : Nat), x]) :=
      ⟨by show 2 ≤ sizeLine; decide, [.int i tk, v], .cons ⟨_, rfl⟩ (.cons ru .nil), ⟨_, hT2, rfl, _, rfl⟩⟩
    have I1 : Inv X pins σ (upd H s.heap.objs.size (.tup [.int (i : Nat), x])) { s with heap := h'', toks := tk + 1 } :=
      I.turnedNew (ch := [e, it]) (fun b ob hb q => (sb.2 b (fun z => hb (by simp [z]))).trans (hk b ob (fun z => hb (by simp [z])) (fun z => hb (by simp [z])) q)) hf (Nat.le_refl _) new
    refine ⟨.ref s.heap.objs.size, _, I1, rfl, ⟨_, x, rfl, I.hok.fresh (Nat.le_refl _), rfl, fun ys hy => by rw [I.tuple_inj hy hq]; exact hx⟩, ⟨⟨v, ?_⟩, hst.1.at fun o q => (sb.2 it (Ne.symm hne)).trans q, hne⟩, fun b hb => ?_⟩
    · have e1 : ((i + 1 : Nat) : Int) = (i : Int) + 1 := by omega
      rw [e1]; exact he'
    · have hb' : b < s.heap.objs.size := by
        have e' : b = e ∨ b = it := by simpa using hb
        rcases e' with z | z
        · rw [z]; exact hel
        · rw [z]; exact hil
      rw [upd_ne (Nat.ne_of_lt hb')]
      exact (hf b hb).1
  done := by
    intro X hP hw hK hc i pins s σ H E I hf st hg
    subst hP hw hK
    obtain ⟨⟨old, he⟩, hit, hne⟩ := st
    obtain ⟨xs, hq, hx⟩ := hg
    obtain ⟨its, rv, p, hz⟩ := I.tuple hq
    obtain ⟨f0, f1, f2, f3, f4, f5⟩ := hf it (by simp)
    have hl := rv.length
    have hT : s.TypeIs (.ref e) "enumerate" := ⟨_, he, rfl⟩
    unfold pyNext
    refine wpAny_bind (wpAny_attempt (wpAny_callSpecial?_slot (name := Str.ofString "__next__") hT F.slot_enumerate_next
      (wpAny_call_entry F.slot_enumerate_next hT F.entry_enumerate_next ?_ (F.args_enumerate_next_1 _))))
    show wpAny _ _ (field (.ref e) 2 >>= _) _ _ _
    refine wpAny_bind (wpAny_field he rfl (x := .ref it) rfl ?_)
    refine wpAny_bind (wpAny_nextOf_tuple_end (I.ok.hd hc) hit p (by simp; omega) fun h' x' he' hx' => ?_)
    obtain ⟨o, ho, hc'⟩ := hx'
    refine wpAny_bind (wpAny_isInstance (T := "StopIteration") (b := true) ⟨o, ho, hc'⟩ isSubtype_stop ?_)
    exact wpAny_pure ⟨rfl, I.turned (t' := s.toks) (fun b o hb q => he' b o hb q) f0 f1 f3 f4 f5⟩
  self := by
    intro A i s Q E st h
    obtain ⟨⟨old, he⟩, _⟩ := st
    exact wpAny_pyIter_enum he h
def iEnumT (K : PySem.W.Frag) (ta : TA) : TI := fun σ H R => ta σ H fun vs H1 => ∃ a xs, vs = [.ref a] ∧ SqT K H1 a xs ∧ R (IteT K a) H1
theorem pi_enumT {X : Cx} {e : Expr} {ta : TA} {p pos tpos : Pos} {elts : List Expr} {kk : Nat} (hg : Gl X "enumerate") (hm : X.mg "enumerate" = none) (ha : PA X [e] ta) (hs : starEach [e] X.env = [(false, eval e X.env)] := by rfl) :
    PI X (.Tuple elts kk tpos) (.Call (.Name "enumerate" p) [e] [] pos) (iEnumT X.K ta) := by
  refine ⟨fun pins s σ H R I h => ?_⟩
  refine Call_ (ld_blt I hg hm boot_enumerate (PyProof.Rows.callWith_type1 (thn (ha.run pos pins s σ H _ I h) fun us s1 ⟨vs, H1, I1, r1, q1⟩ => ?_) hs rfl))
  obtain ⟨a, xs, ex, hq, q⟩ := q1
  subst ex
  cases r1 with
  | cons r rr =>
    cases rr
    cases r
    obtain ⟨its, rv, p', hz⟩ := I1.tuple hq
    have hal : a < s1.heap.objs.size := p'.lt
    refine ga_enumerate_tuple p' fun h' he hit hsz hk => wpAny_pyIter_enum he ?_
    have I2 : Inv X pins σ H1 { s1 with heap := h' } := I1.kept (t' := s1.toks) hk
    refine ⟨s1.heap.objs.size + 1, [s1.heap.objs.size + 1, s1.heap.objs.size], _, _, H1, rfl, I2, turn_enumT a (s1.heap.objs.size + 1) s1.heap.objs.size (Nat.ne_of_lt hal) (Nat.ne_of_lt (Nat.lt_succ_of_lt hal)), ⟨⟨.none, he⟩, hit, Nat.succ_ne_self _⟩, fun b hb => ?_, q⟩
    have e' : b = s1.heap.objs.size + 1 ∨ b = s1.heap.objs.size := by simpa using hb
    have hle : s1.heap.objs.size ≤ b := by
      rcases e' with z | z
      · rw [z]; exact Nat.le_add_right _ _
      · rw [z]; exact Nat.le_refl _
    exact I1.fpOk hle (I1.hok.fresh hle)
theorem walk_enumT {K : PySem.W.Frag} {a : Addr} {xs : List V} : Walk (IteT K a) xs.length (fun H => SqT K H a xs) (YPair (fun i => some (.int (i : Nat))) (fun i => xs[i]?)) := by
  refine ⟨fun i _ hi q => ⟨xs, xs[i], q, by simp [hi]⟩, fun _ q => ⟨xs, q, Nat.le_refl _⟩, fun i H v H' _ q y => ?_⟩
  obtain ⟨T, x, h1, h2, h3, h4⟩ := y
  exact ⟨T, .int (i : Nat), x, h1, h2, h3, rfl, h4 xs q⟩
end GA
/-! ## GC -/
namespace GA
open PySem L2
theorem Ts.of {H H' : Hp} (k : ∀ a u, H a = some u → (∀ xs, u ≠ .lst xs) → H' a = some u) : Ts H H' := fun a xs h => h.elim (fun h => .inl (k a _ h fun _ z => nomatch z)) fun ⟨ob, h⟩ => .inr ⟨ob, k a _ h fun _ z => nomatch z⟩
theorem Ts.updl {H : Hp} {D : Addr} {xs : List V} {u : HO} (h : H D = some (.lst xs)) : Ts H (upd H D u) := Ts.of fun a w e n => by
  rw [upd_ne (ne_of e h (n xs))]; exact e
theorem Ts.trans {H H1 H2 : Hp} (a : Ts H H1) (b : Ts H1 H2) : Ts H H2 := fun x xs h => b x xs (a x xs h)
section
variable {K : PySem.W.Frag} {J : It} {n : Nat} {Gd : Hp → Prop} {Y : Nat → Hp → V → Hp → Prop} {o : Option (Addr × Addr)} {H1 : Hp} {D : Addr} {g : TG} {tt : TT} {te : TE} {vs : List Nat} {σ : L2.St} {Qd : Hp → Prop}
/-- a comprehension: what it has made as data; Pv by the turn, the data, the heap -/
theorem lc_data (wk : Walk J n Gd Y) (hn : n ≤ 100000) (hD : H1 D = none) (hh : ∀ p, o = some p → Hand H1 p.1 p.2) (Pv : Nat → List PyData → Hp → Prop)
    (stab : ∀ i acc H xs l, Pv i acc H → H D = some (.lst xs) → Pv i acc (upd H D (.lst l)))
    (h0 : Pv 0 [] (upd H1 D (.lst [])))
    (hG : ∀ i acc H, G o H1 H → Pv i acc H → Gd H)
    (hs : ∀ i x acc H H', i < n → G o H1 H → Pv i acc H → Y i H x H' → ∀ (Qy : V → Hp → Prop) (Qn : Hp → Prop), (∀ y H4 e, G o H H4 → Dp K H4 y e → nl e = true → Pv (i + 1) (acc ++ [e]) H4 → Qy y H4) → (∀ H3, G o H H3 → Pv (i + 1) acc H3 → Qn H3) →
      g x (wipe σ vs) H' fun σ2 H2 => wipe σ2 vs = wipe σ vs ∧ tt σ2 H2 fun b H3 => if b = true then te σ2 H3 Qy else Qn H3)
    (hd : ∀ ds xs H', Pv n ds H' → G o H1 H' → H' D = some (.lst xs) → DpAll K H' xs ds → nls ds = true → Qd H') :
    ∃ W : Nat → Nat → Hp → Prop, (∃ m, W 0 m (upd H1 D (.lst []))) ∧ ∀ i m H, W i m H →
      (J.stop i H ∧ Qd H) ∨ (J.go i H ∧ ∃ Nx : Hp → Prop, (∀ H', Nx H' → ∃ m', m' < m ∧ W (i + 1) m' H') ∧ ∀ x H', J.yld i H x H' → g x (wipe σ vs) H' fun σ2 H2 => wipe σ2 vs = wipe σ vs ∧ tt σ2 H2 fun b H3 =>
        if b = true then te σ2 H3 fun y H4 => ∃ acc, H4 D = some (.lst acc) ∧ acc.length < sizeLine ∧ Nx (upd H4 D (.lst (acc ++ [y]))) else Nx H3) := by
  have offD : ∀ p, o = some p → D ≠ p.1 := fun p e => (hh p e).ne hD
  refine lc_it wk (fun i H => ∃ ds xs, G o H1 H ∧ Pv i ds H ∧ H D = some (.lst xs) ∧ DpAll K H xs ds ∧ nls ds = true ∧ xs.length ≤ i) ?_ ?_ ?_ ?_
  · exact ⟨[], [], (G.refl).mut hD hh, h0, upd_same, .nil, rfl, Nat.le_refl _⟩
  · rintro i H _ ⟨ds, xs, q1, q2, _⟩
    exact hG i ds H q1 q2
  · rintro i x H H' hi ⟨ds, xs, q1, q2, q3, q4, q5, q6⟩ y
    have keepD : ∀ {H4 : Hp}, G o H H4 → H4 D = some (.lst xs) := fun g4 => g4.keep D _ offD q3
    refine hs i x ds H H' hi q1 q2 y _ _ (fun v H4 e g4 he ne hp => ?_) fun H3 g3 hp => ⟨ds, xs, q1.trans g3, hp, keepD g3, dpAll_t g3.tups _ _ q5 q4, q5, by omega⟩
    have hD4 := keepD g4
    have t4 : Ts H4 (upd H4 D (.lst (xs ++ [v]))) := Ts.updl hD4
    refine ⟨xs, hD4, Nat.lt_of_le_of_lt (by omega : xs.length ≤ 100000) (by decide), ds ++ [e], xs ++ [v], (q1.trans g4).mut hD hh, stab _ _ _ _ _ hp hD4, upd_same, ?_, ?_, ?_⟩
    · exact DpAll.app (dpAll_t (g4.tups.trans t4) _ _ q5 q4) (DpAll.one (dp_t t4 e v ne he))
    · rw [nls_iff] at q5 ⊢
      intro d hd
      rcases List.mem_append.mp hd with z | z
      · exact q5 d z
      · have : d = e := by simpa using z
        rw [this]; exact ne
    · rw [List.length_append, List.length_singleton]; omega
  · rintro H ⟨ds, xs, q1, q2, q3, q4, q5, _⟩
    exact hd ds xs H q2 q1 q3 q4 q5
/-- one whose items are told by their places -/
theorem lc_pure (wk : Walk J n Gd Y) (hn : n ≤ 100000) (hD : H1 D = none) (hh : ∀ p, o = some p → Hand H1 p.1 p.2) (f : Nat → Option PyData)
    (hG : ∀ H, G o H1 H → Gd H)
    (hs : ∀ i x H H', i < n → G o H1 H → Y i H x H' → ∀ (Qy : V → Hp → Prop) (Qn : Hp → Prop), (∀ y H4 e, G o H H4 → Dp K H4 y e → nl e = true → f i = some e → Qy y H4) → (∀ H3, G o H H3 → f i = none → Qn H3) →
      g x (wipe σ vs) H' fun σ2 H2 => wipe σ2 vs = wipe σ vs ∧ tt σ2 H2 fun b H3 => if b = true then te σ2 H3 Qy else Qn H3)
    (hd : ∀ xs H', G o H1 H' → H' D = some (.lst xs) → DpAll K H' xs ((List.range n).filterMap f) → nls ((List.range n).filterMap f) = true → Qd H') :
    ∃ W : Nat → Nat → Hp → Prop, (∃ m, W 0 m (upd H1 D (.lst []))) ∧ ∀ i m H, W i m H →
      (J.stop i H ∧ Qd H) ∨ (J.go i H ∧ ∃ Nx : Hp → Prop, (∀ H', Nx H' → ∃ m', m' < m ∧ W (i + 1) m' H') ∧ ∀ x H', J.yld i H x H' → g x (wipe σ vs) H' fun σ2 H2 => wipe σ2 vs = wipe σ vs ∧ tt σ2 H2 fun b H3 =>
        if b = true then te σ2 H3 fun y H4 => ∃ acc, H4 D = some (.lst acc) ∧ acc.length < sizeLine ∧ Nx (upd H4 D (.lst (acc ++ [y]))) else Nx H3) := by
  refine lc_data (K := K) wk hn hD hh (fun i acc _ => acc = (List.range i).filterMap f) (fun _ _ _ _ _ h _ => h) rfl (fun _ _ H q _ => hG H q) ?_ ?_
  · rintro i x acc H H' hi q1 rfl y Qy Qn ky kn
    refine hs i x H H' hi q1 y Qy Qn (fun y H4 e g4 he ne hf => ky y H4 e g4 he ne ?_) fun H3 g3 hf => kn H3 g3 ?_
    · rw [List.range_succ, List.filterMap_append]; simp [hf]
    · rw [List.range_succ, List.filterMap_append]; simp [hf]
  · rintro ds xs H' rfl q1 q2 q3 q4
    exact hd xs H' q1 q2 q3 q4
end
theorem G.at_hd {H0 H' : Hp} {hd c : Addr} (x : Hand H0 hd c) (E : ∀ a, a ≠ hd → H' a = H0 a) {i b m k : Int} (h : H' hd = some (.lst [.ref c, .int i, .int b, .int m, .int k])) (hi : 0 ≤ i) : G (some (hd, c)) H0 H' ∧ Hand H' hd c := by
  obtain ⟨n, ⟨ns, h1⟩, i0, b0, m0, k0, h2, h3⟩ := x
  have hh : Hand H' hd c := ⟨n, ⟨ns, by rw [E c n]; exact h1⟩, i, b, m, k, h, hi⟩
  refine ⟨⟨fun a u z e => ?_, fun a xs e => ?_, fun p e _ => ?_⟩, hh⟩
  · rw [E a (z _ rfl)]; exact e
  · have na : a ≠ hd := by
      rcases e with e | ⟨ob, e⟩
      · exact ne_of e h2 (by intro z; cases z)
      · exact ne_of e h2 (by intro z; cases z)
    rcases e with e | ⟨ob, e⟩
    · exact .inl (by rw [E a na]; exact e)
    · exact .inr ⟨ob, by rw [E a na]; exact e⟩
  · cases e; exact hh
theorem mem_cutV {xs : List V} {lo hi : Option Int} {v : V} (h : v ∈ cutV xs lo hi) : v ∈ xs := by
  unfold cutV at h
  exact List.mem_of_mem_drop (List.mem_of_mem_take h)
theorem ints_of {xs : List V} (h : ∀ v ∈ xs, ∃ n : Int, v = .int n) : ∃ ns : List Int, xs = ns.map V.int := by
  induction xs with
  | nil => exact ⟨[], rfl⟩
  | cons x xs ih =>
    obtain ⟨n, rfl⟩ := h x List.mem_cons_self
    obtain ⟨ns, rfl⟩ := ih fun v hv => h v (List.mem_cons_of_mem _ hv)
    exact ⟨n :: ns, rfl⟩
/-! new objects, told by what they leave -/
theorem PE.weak {X : Cx} {e : Expr} {t t' : TE} (h : PE X e t) (w : ∀ σ H Q, t' σ H Q → t σ H Q) : PE X e t' := ⟨fun pins s σ H Q I q => h.run pins s σ H Q I (w σ H Q q)⟩
theorem CallR.weak {X : Cx} {f : Value} {r r' : List V → Hp → VK → Prop} (h : CallR X f r) (w : ∀ xs H Q, r' xs H Q → r xs H Q) : CallR X f r' := fun pins s σ H xs us Q I rv q => h pins s σ H xs us Q I rv (w xs H Q q)
theorem OpR.weak {X : Cx} {f : Value → Value → Sem Value} {r r' : R2} (h : OpR X f r) (w : ∀ x y H Q, r' x y H Q → r x y H Q) : OpR X f r' := fun pins s σ H x y v u Q I r1 r2 q => h pins s σ H x y v u Q I r1 r2 (w x y H Q q)
theorem SlR.weak {X : Cx} {r r' : V → Option Int → Option Int → Hp → VK → Prop} (h : SlR X r) (w : ∀ x l u H Q, r' x l u H Q → r x l u H Q) : SlR X r' := fun pins s σ H x v vl vu lo hi sl Q I r1 hs pl pu q => h pins s σ H x v vl vu lo hi sl Q I r1 hs pl pu (w x lo hi H Q q)
/-- for each new object u at p: F p H2 -/
def New (H : Hp) (u : HO) (F : Addr → Hp → Prop) : Prop := ∀ p H2, H p = none → (∀ o, G o H H2) → H2 p = some u → F p H2
theorem New.go {H : Hp} {u : HO} {F : Addr → Hp → Prop} (h : New H u F) {p : Addr} (hp : H p = none) : F p (upd H p u) := h p _ hp (fun _ => G.alloc hp) upd_same
def tTupN (t : TA) : TE := fun σ H Q => t σ H fun xs H1 => xs.length ≤ sizeLine ∧ New H1 (.tup xs) fun p H2 => Q (.ref p) H2
def tLstN (t : TA) : TE := fun σ H Q => t σ H fun xs H1 => xs.length ≤ sizeLine ∧ New H1 (.lst xs) fun p H2 => Q (.ref p) H2
section
variable {X : Cx} {es : List Expr} {t : TA} {pos : Pos}
theorem pe_tupN {x1} (h : PA X es t) : PE X (.Tuple es x1 pos) (tTupN t) := by
  have h' : PA X es (fun σ H QA => t σ H QA) := h
  refine ⟨fun pins s σ H Q I q => ?_⟩
  have hm : PA X es (fun σ H QA => t σ H (fun xs H1 => xs.length ≤ sizeLine ∧ New H1 (.tup xs) fun p H2 => Q (.ref p) H2) ∧ ∀ xs H1, (xs.length ≤ sizeLine ∧ New H1 (.tup xs) fun p H2 => Q (.ref p) H2) → QA xs H1) :=
    ⟨fun pos pins s σ H QA I q => wpAny_mono (h.run pos pins s σ H _ I q.1) (fun us s1 ⟨vs, H1, I1, r, z⟩ => ⟨vs, H1, I1, r, q.2 vs H1 z⟩) fun _ _ z => z⟩
  exact (pe_tup hm).run pins s σ H Q I ⟨q, fun xs H1 z => ⟨z.1, fun p hp => z.2.go hp⟩⟩
theorem pe_lstN (h : PA X es t) : PE X (.List es pos) (tLstN t) := by
  refine ⟨fun pins s σ H Q I q => ?_⟩
  have hm : PA X es (fun σ H QA => t σ H (fun xs H1 => xs.length ≤ sizeLine ∧ New H1 (.lst xs) fun p H2 => Q (.ref p) H2) ∧ ∀ xs H1, (xs.length ≤ sizeLine ∧ New H1 (.lst xs) fun p H2 => Q (.ref p) H2) → QA xs H1) :=
    ⟨fun pos pins s σ H QA I q => wpAny_mono (h.run pos pins s σ H _ I q.1) (fun us s1 ⟨vs, H1, I1, r, z⟩ => ⟨vs, H1, I1, r, q.2 vs H1 z⟩) fun _ _ z => z⟩
  exact (pe_lst hm).run pins s σ H Q I ⟨q, fun xs H1 z => ⟨z.1, fun p hp => z.2.go hp⟩⟩
end
/-- tuple(a list): a new tuple; tuple(a tuple): itself -/
def rTupleN (K : PySem.W.Frag) : List V → Hp → VK → Prop := fun xs H Q => ∃ p ys, xs = [.ref p] ∧ ((SqL K H p ys ∧ New H (.tup ys) fun l H2 => Q (.ref l) H2) ∨ (SqT K H p ys ∧ Q (.ref p) H))
theorem call_tupleN {X : Cx} : CallR X (.type "tuple") (rTupleN X.K) := CallR.weak call_tuple_of fun xs H Q h => by
  obtain ⟨p, ys, e, h | h⟩ := h
  · exact ⟨p, ys, e, .inl ⟨h.1, fun l hl => h.2.go hl⟩⟩
  · exact ⟨p, ys, e, .inr h⟩
def rListN (K : PySem.W.Frag) : List V → Hp → VK → Prop := fun xs H Q => ∃ p ys, xs = [.ref p] ∧ (SqL K H p ys ∨ SqT K H p ys) ∧ New H (.lst ys) fun l H2 => Q (.ref l) H2
theorem call_listN {X : Cx} : CallR X (.type "list") (rListN X.K) := CallR.weak call_list_of fun xs H Q h => by
  obtain ⟨p, ys, e, h, q⟩ := h
  exact ⟨p, ys, e, h, fun l hl => q.go hl⟩
theorem w_tupN {σ : L2.St} {H : Hp} {Q : VK} {tr : TA} (q : tr σ H fun xs H1 => xs.length ≤ sizeLine ∧ New H1 (.tup xs) fun p H2 => Q (.ref p) H2) : tTupN tr σ H Q := q
theorem w_lstN {σ : L2.St} {H : Hp} {Q : VK} {tr : TA} (q : tr σ H fun xs H1 => xs.length ≤ sizeLine ∧ New H1 (.lst xs) fun p H2 => Q (.ref p) H2) : tLstN tr σ H Q := q
/-- for up to so many items -/
theorem sz {n : Nat} (h : n ≤ 100000) : n ≤ sizeLine := Nat.le_trans h (by decide)
theorem filterMap_range_map {α β : Type} (l : List α) (f : α → β) : (List.range l.length).filterMap (fun i => (l[i]?).map f) = l.map f := by
  induction l with
  | nil => rfl
  | cons a l ih =>
    rw [List.length_cons, List.range_succ_eq_map, List.filterMap_cons, List.filterMap_map]
    simp only [List.getElem?_cons_zero, Option.map_some, List.map_cons]
    congr 1
theorem filterMap_range_fm {α β : Type} (l : List α) (f : α → Option β) : (List.range l.length).filterMap (fun i => (l[i]?).bind f) = l.filterMap f := by
  induction l with
  | nil => rfl
  | cons a l ih =>
    rw [List.length_cons, List.range_succ_eq_map, List.filterMap_cons, List.filterMap_map, List.filterMap_cons]
    simp only [List.getElem?_cons_zero, Option.bind_some]
    cases f a with
    | none => exact ih
    | some b => simp only []; congr 1
section
variable {K : PySem.W.Frag} {σ : L2.St} {H : Hp} {Q : VK} {D : Ends}
theorem w_lc {wi : TI} {g : TG} {tt : TT} {te : TE} {vs : List Nat} (q : wi σ H fun J H1 => ∀ D, H1 D = none → ∃ W : Nat → Nat → Hp → Prop, (∃ m, W 0 m (upd H1 D (.lst []))) ∧ ∀ i m H, W i m H →
  (J.stop i H ∧ Q (.ref D) H) ∨ (J.go i H ∧ ∃ Nx : Hp → Prop, (∀ H', Nx H' → ∃ m', m' < m ∧ W (i + 1) m' H') ∧ ∀ x H', J.yld i H x H' → g x (wipe σ vs) H' fun σ2 H2 => wipe σ2 vs = wipe σ vs ∧ tt σ2 H2 fun b H3 =>
    if b = true then te σ2 H3 fun y H4 => ∃ acc, H4 D = some (.lst acc) ∧ acc.length < sizeLine ∧ Nx (upd H4 D (.lst (acc ++ [y]))) else Nx H3)) : tLc wi g tt te vs σ H Q := q
theorem w_nt {A B : Prop} (q : B) : if (!true) = true then A else B := q
theorem w_nf {A B : Prop} (q : A) : if (!false) = true then A else B := q
theorem w_iteE {b : Bool} {A B : Prop} (e : b = true) (q : A) : if b = true then A else B := by rw [if_pos e]; exact q
theorem w_iteN {b : Bool} {A B : Prop} (e : b = false) (q : B) : if b = true then A else B := by rw [e]; exact q
theorem w_isN {te : TE} (q : te σ H fun x H1 => Q (.bl (decide (x = .non))) H1) : tIsN te σ H Q := q
theorem w_notN {te : TE} (q : te σ H fun x H1 => Q (.bl (!decide (x = .non))) H1) : tNotN te σ H Q := q
theorem w_seqM {ts tu : TS} (M : L2.St → Hp → Prop) (h1 : ∀ N : L2.St → Hp → Prop, (∀ σ' H', M σ' H' → N σ' H') → ts { D with nx := N } σ H) (h2 : ∀ σ' H', M σ' H' → tu D σ' H') : tSeq ts tu D σ H := h1 _ h2
theorem w_make {C : Addr} {sp : Sp} {E : XK} {tr : TA} (q : tr σ H fun vs H1 => ∀ x dx, H1 x = none → H1 dx = none → dx ≠ x → sp (.ref x :: (vs ++ [])) (upd (upd H1 dx (.own x)) x (.ins C dx [])) (fun v H2 => v = .non ∧ Q (.ref x) H2) E) : tMake C sp [] E tr σ H Q := q
theorem w_yes {QB : Bool → Hp → Prop} (q : QB true H) : tYes σ H QB := q
theorem w_for {wi : TI} {g : TG} {tb : TS} (q : wi σ H fun J H1 => ∃ W : Nat → Nat → L2.St → Hp → Prop, (∃ m, W 0 m σ H1) ∧ ∀ i m σ H, W i m σ H →
  (J.stop i H ∧ D.nx σ H) ∨ (J.go i H ∧ ∃ N : L2.St → Hp → Prop, (∀ σ' H', N σ' H' → ∃ m', m' < m ∧ W (i + 1) m' σ' H') ∧ ∀ x H', J.yld i H x H' → g x σ H' fun σ2 H2 => tb { D with nx := N, ct := N, bk := D.nx } σ2 H2)) : tFor wi g tb D σ H := q
variable {R : It → Hp → Prop} {ta : TA} {te : TE}
theorem w_rng1 (q : ta σ H fun vs H1 => ∃ j : Int, vs = [.int j] ∧ -(2 ^ 62) ≤ j ∧ j < 2 ^ 62 ∧ R (Itr 0 j.toNat) H1) : iRng1 ta σ H R := q
theorem w_rng2 (q : ta σ H fun vs H1 => ∃ i j : Int, vs = [.int i, .int j] ∧ (-(2 ^ 62) ≤ i ∧ i < 2 ^ 62 ∧ -(2 ^ 62) ≤ j ∧ j < 2 ^ 62) ∧ R (Itr i (j - i).toNat) H1) : iRng2 ta σ H R := q
theorem w_itup (q : te σ H fun x H1 => ∃ a, x = .ref a ∧ (∃ xs, SqT K H1 a xs) ∧ R (Itt K a) H1) : iTup K te σ H R := q
theorem w_ilist (q : te σ H fun x H1 => ∃ a, x = .ref a ∧ (∃ xs, SqL K H1 a xs) ∧ R (Itl K a) H1) : iList K te σ H R := q
theorem w_ienum (q : ta σ H fun vs H1 => ∃ a xs, vs = [.ref a] ∧ SqT K H1 a xs ∧ R (IteT K a) H1) : iEnumT K ta σ H R := q
theorem w_izip (q : ta σ H fun vs H1 => ∃ a b xs ys, vs = [.ref a, .ref b] ∧ ((SqL K H1 a xs ∧ SqL K H1 b ys ∧ R (Itz K a b) H1) ∨ (SqT K H1 a xs ∧ SqT K H1 b ys ∧ R (RZ.ItzT K a b) H1))) : RZ.iZipA K ta σ H R := q
theorem w_BM {T : String} {r : V → List V → Hp → VK → Prop} {to : TE} (q : to σ H fun x H1 => tyV K T x H1 ∧ ta σ H1 fun xs H2 => r x xs H2 Q) : tBM K T r to ta σ H Q := q
theorem w_BM0 {T : String} {r : V → List V → Hp → VK → Prop} {to : TE} (q : to σ H fun x H1 => tyV K T x H1 ∧ r x [] H1 Q) : tBM0 K T r to σ H Q := q
theorem i_BM {l : Addr} {xs : List V} {F : Prop} (h : H l = some (.lst xs)) (q : F) : tyV K "list" (.ref l) H ∧ F := ⟨.inl ⟨rfl, _, SqL.of h⟩, q⟩
theorem r_app {l : Addr} {xs : List V} {y : V} (h : H l = some (.lst xs)) (hz : xs.length ≤ 90000) (q : Q .non (upd H l (.lst (xs ++ [y])))) : rAppend (.ref l) [y] H Q := ⟨l, xs, y, rfl, rfl, h, Nat.lt_of_le_of_lt hz (by decide), q⟩
theorem i_rng1 {F : Int → Prop} {j : Int} (h1 : 0 ≤ j) (h2 : j ≤ 100000) (q : F j) : ∃ k : Int, [V.int j] = [.int k] ∧ -(2 ^ 62) ≤ k ∧ k < 2 ^ 62 ∧ F k := ⟨j, rfl, by omega, by omega, q⟩
theorem i_rng2 {F : Int → Int → Prop} {i j : Int} (h : -100000 ≤ i ∧ i ≤ 100000 ∧ -100000 ≤ j ∧ j ≤ 100000) (q : F i j) : ∃ k l : Int, [V.int i, V.int j] = [.int k, .int l] ∧ (-(2 ^ 62) ≤ k ∧ k < 2 ^ 62 ∧ -(2 ^ 62) ≤ l ∧ l < 2 ^ 62) ∧ F k l := ⟨i, j, rfl, by omega, q⟩
theorem i_tup {F : Addr → Prop} {a : Addr} {xs : List V} (h : SqT K H a xs) (q : F a) : ∃ b, V.ref a = .ref b ∧ (∃ xs, SqT K H b xs) ∧ F b := ⟨a, rfl, ⟨xs, h⟩, q⟩
theorem i_list {F : Addr → Prop} {a : Addr} {xs : List V} (h : SqL K H a xs) (q : F a) : ∃ b, V.ref a = .ref b ∧ (∃ xs, SqL K H b xs) ∧ F b := ⟨a, rfl, ⟨xs, h⟩, q⟩
theorem i_enum {F : Addr → Prop} {a : Addr} {xs : List V} (h : SqT K H a xs) (q : F a) : ∃ (b : Addr) (ys : List V), [V.ref a] = [.ref b] ∧ SqT K H b ys ∧ F b := ⟨a, xs, rfl, h, q⟩
end
end GA
/-! ## GD -/
namespace GA
open PySem L2
/-! ### data within data -/
def rInDT (K : PySem.W.Frag) : R2 := fun x y H Q => ∃ d ds, Dp K H x d ∧ Dp K H y (.tuple ds) ∧ SeqAt.shaped d = true ∧ SeqAt.shaped (.tuple ds) = true ∧ Q (.bl (ds.any fun z => PyData.eqv z d)) H
theorem op_inDT {X : Cx} (hu : X.A.units + 65 < cLine) : OpR X (compareOp .In) (rInDT X.K) := by
  intro pins s σ H x y v u Q I rx ry h
  obtain ⟨d, ds, hd, he, sd, se, q⟩ := h
  obtain ⟨as, r1⟩ := Dp.reads I d x v hd rx
  obtain ⟨bs, r2⟩ := Dp.reads I (.tuple ds) y u he ry
  exact SeqAt.in_tuple_reads r2 r1 (SeqAt.canLay_of_shaped se) (SeqAt.canLay_of_shaped sd) (PyProof.Rows.room_in_shaped sd hu) ⟨.bl _, H, I, rfl, q⟩
theorem u65 {k : Nat} {A : Around} (hr : Room k A) : A.units + 65 < cLine := by
  have := hr.un
  omega
theorem canAll {ds : List PyData} (h : ∀ d ∈ ds, d.canLay0 = true) : PyData.canLayAll0 ds = true := by
  induction ds with
  | nil => rfl
  | cons d ds ih => rw [PyData.canLayAll0, h d List.mem_cons_self, ih fun e he => h e (List.mem_cons_of_mem _ he)]; rfl
theorem depAll {n : Nat} {ds : List PyData} (h : ∀ d ∈ ds, d.depth ≤ n) : PyData.depthAll ds ≤ n := by
  induction ds with
  | nil => rw [PyData.depthAll]; exact Nat.zero_le _
  | cons d ds ih =>
    rw [PyData.depthAll]
    have h1 := h d List.mem_cons_self
    have h2 := ih fun e he => h e (List.mem_cons_of_mem _ he)
    omega
theorem sh_of {d : PyData} (h1 : d.canLay0 = true) (h2 : d.depth ≤ 64) : SeqAt.shaped d = true := by
  unfold SeqAt.shaped
  rw [h1, decide_eq_true h2]; rfl
theorem dep_tup {n : Nat} {ds : List PyData} (h : ∀ d ∈ ds, d.depth ≤ n) : (PyData.tuple ds).depth ≤ n + 1 := by
  rw [PyData.depth]
  have := depAll h
  omega
theorem can_tup {ds : List PyData} (h : ∀ d ∈ ds, d.canLay0 = true) : (PyData.tuple ds).canLay0 = true := by
  rw [PyData.canLay0]; exact canAll h
theorem can_int {n : Int} : (PyData.int n).canLay0 = true := by simp [PyData.canLay0]
theorem dep_int {n : Int} : (PyData.int n).depth = 0 := by simp [PyData.depth]
theorem can_dI (ns : List Int) : (dI ns).canLay0 = true := can_tup fun d h => by
  obtain ⟨n, _, rfl⟩ := List.mem_map.mp h
  exact can_int
theorem dep_dI (ns : List Int) : (dI ns).depth ≤ 1 := dep_tup (n := 0) fun d h => by
  obtain ⟨n, _, rfl⟩ := List.mem_map.mp h
  rw [dep_int]; exact Nat.le_refl _
theorem can_dP (w : Int × Int) : (dP w).canLay0 = true := can_dI [w.1, w.2]
theorem dep_dP (w : Int × Int) : (dP w).depth ≤ 1 := dep_dI [w.1, w.2]
theorem can_dW (ws : List (Int × Int)) : (dW ws).canLay0 = true := can_tup fun d h => by
  obtain ⟨n, _, rfl⟩ := List.mem_map.mp h
  exact can_dP n
theorem dep_dW (ws : List (Int × Int)) : (dW ws).depth ≤ 2 := dep_tup (n := 1) fun d h => by
  obtain ⟨n, _, rfl⟩ := List.mem_map.mp h
  exact dep_dP n
theorem sh_dI (ns : List Int) : SeqAt.shaped (dI ns) = true := sh_of (can_dI ns) (Nat.le_trans (dep_dI ns) (by decide))
theorem sh_dP (w : Int × Int) : SeqAt.shaped (dP w) = true := sh_of (can_dP w) (Nat.le_trans (dep_dP w) (by decide))
theorem sh_dW (ws : List (Int × Int)) : SeqAt.shaped (dW ws) = true := sh_of (can_dW ws) (Nat.le_trans (dep_dW ws) (by decide))
theorem eqv_int {i j : Int} : PyData.eqv (.int i) (.int j) = decide (i = j) := by
  rw [PyData.eqv]; exact Bool.beq_eq_decide_eq i j
theorem eqvAll_map {α : Type} [DecidableEq α] {f : α → PyData} (h : ∀ x y, PyData.eqv (f x) (f y) = decide (x = y)) : ∀ (xs ys : List α), PyData.eqvAll (xs.map f) (ys.map f) = decide (xs = ys)
  | [], [] => by simp [PyData.eqvAll]
  | [], y :: ys => by simp [PyData.eqvAll]
  | x :: xs, [] => by simp [PyData.eqvAll]
  | x :: xs, y :: ys => by
    rw [List.map_cons, List.map_cons, PyData.eqvAll, h, eqvAll_map h xs ys]
    simp only [List.cons.injEq]
    by_cases h1 : x = y <;> by_cases h2 : xs = ys <;> simp [h1, h2]
theorem eqv_dI (ns ms : List Int) : PyData.eqv (dI ns) (dI ms) = decide (ns = ms) := by
  rw [PyData.eqv]; exact eqvAll_map (fun _ _ => eqv_int) ns ms
theorem eqv_dP (u v : Int × Int) : PyData.eqv (dP u) (dP v) = decide (u = v) := by
  have := eqv_dI [u.1, u.2] [v.1, v.2]
  have e : decide (([u.1, u.2] : List Int) = [v.1, v.2]) = decide (u = v) := by
    rw [decide_eq_decide]
    constructor
    · intro h
      injection h with h1 h2
      injection h2 with h2 _
      exact Prod.ext h1 h2
    · intro h; rw [h]
  rw [← e]; exact this
theorem eqv_dW (us ws : List (Int × Int)) : PyData.eqv (dW us) (dW ws) = decide (us = ws) := by
  rw [PyData.eqv]; exact eqvAll_map eqv_dP us ws
theorem any_dP (ws : List (Int × Int)) (u : Int × Int) : ((ws.map dP).any fun z => PyData.eqv z (dP u)) = decide (u ∈ ws) := by
  rw [List.any_map]
  have : (fun z => PyData.eqv z (dP u)) ∘ dP = fun z => decide (z = u) := by
    funext z; exact eqv_dP z u
  rw [this]
  induction ws with
  | nil => simp
  | cons w ws ih =>
    rw [List.any_cons, ih]
    by_cases h : w = u
    · simp [h]
    · have h' : ¬ u = w := fun e => h e.symm
      simp [h, h']
/-! the rules with the written part told: for a comprehension's block -/
section
variable {X : Cx}
theorem k_ix_tup (K : PySem.W.Frag) (hK : X.K = K := by rfl) : IxR X (rIxT K) := by subst hK; exact ix_tup
theorem k_ix_list (K : PySem.W.Frag) (hK : X.K = K := by rfl) : IxR X (rIxL K) := by subst hK; exact ix_list
theorem k_op_in_seq (K : PySem.W.Frag) (hK : X.K = K := by rfl) : OpR X (compareOp .In) (rIn K false) := by subst hK; exact op_in_seq
theorem k_op_notIn_seq (K : PySem.W.Frag) (hK : X.K = K := by rfl) : OpR X (compareOp .NotIn) (rIn K true) := by subst hK; exact op_notIn_seq
theorem k_call_isi (K : PySem.W.Frag) (hK : X.K = K := by rfl) : CallR X (.builtin "isinstance") (rIsi K) := by subst hK; exact call_isi
theorem k_call_isiT (K : PySem.W.Frag) (hK : X.K = K := by rfl) : CallR X (.builtin "isinstance") (rIsiT K) := by subst hK; exact call_isiT
theorem k_call_tupleN (K : PySem.W.Frag) (hK : X.K = K := by rfl) : CallR X (.type "tuple") (rTupleN K) := by subst hK; exact call_tupleN
theorem k_call_listN (K : PySem.W.Frag) (hK : X.K = K := by rfl) : CallR X (.type "list") (rListN K) := by subst hK; exact call_listN
theorem k_op_inDT (K : PySem.W.Frag) (hu : X.A.units + 65 < cLine) (hK : X.K = K := by rfl) : OpR X (compareOp .In) (rInDT K) := by subst hK; exact op_inDT hu
theorem k_op_eqD (K : PySem.W.Frag) (hu : X.A.units + 64 < cLine) (hK : X.K = K := by rfl) : OpR X (compareOp .Eq) (rEqD K) := by subst hK; exact op_eqD hu
theorem k_op_neD (K : PySem.W.Frag) (hu : X.A.units + 64 < cLine) (hK : X.K = K := by rfl) : OpR X (compareOp .NotEq) (rNeD K) := by subst hK; exact op_neD hu
theorem k_cr_all (K : PySem.W.Frag) (hc : X.calm = true) (hK : X.K = K := by rfl) : CallR X (.builtin "all") (rAll K) := by subst hK; exact cr_all hc
/-- len of a list or tuple -/
def rLenK (K : PySem.W.Frag) : List V → Hp → VK → Prop := fun xs H Q => ∃ p ys, xs = [.ref p] ∧ (SqL K H p ys ∨ SqT K H p ys) ∧ Q (.int ys.length) H
theorem k_call_len_seq (K : PySem.W.Frag) (hK : X.K = K := by rfl) : CallR X (.builtin "len") (rLenK K) := by subst hK; exact call_len_seq
theorem k_fld (K : PySem.W.Frag) {e : Expr} {f : Str} {pos : Pos} {ta : TE} (he : PE X e ta) (hb : attributeBase e f X.env (eval e X.env) = eval e X.env) (hK : X.K = K := by rfl) : PE X (.Attribute e f pos) (tFld K ta f) := by subst hK; exact pe_fld he hb
theorem k_pi_list (K : PySem.W.Frag) {tg l : Expr} {tl : TE} (hl : PE X l tl) (hK : X.K = K := by rfl) : PI X tg l (iList K tl) := by subst hK; exact pi_list hl
theorem k_pi_tup (K : PySem.W.Frag) {tg l : Expr} {tl : TE} (hl : PE X l tl) (hK : X.K = K := by rfl) : PI X tg l (iTup K tl) := by subst hK; exact pi_tup hl
end
end GA
/-! ## GE -/
namespace PyProof.Rows
open PySem
section
variable {prog : Program} {w : World} {A : Around} {E : Value → Shared → Prop} {s : Shared}
theorem ga_collect_tuple {l : Addr} {vs : List Value} {Q : List Value → Shared → Prop} (hl : s.heap.IsTuple l vs.toArray)
    (h : Q vs { s with heap := (s.heap.push (seqObj "list" #[] 0)).update s.heap.objs.size (Obj.mapSeq (· ++ vs.toArray)) }) (hsz : vs.length ≤ sizeLine := by size_fits) :
    wpAny (model prog w) A (collect (.ref l)) Q E s := by
  obtain ⟨o, ho, hc, n, hd⟩ := id hl
  unfold collect
  refine wpAny_bind (wpAny_runValue (codeAny_builtin entry_proto_collect' ?_))
  show wpAny _ _ (do again (.builtin "list.__iadd__" ⟨[← newList [], .ref l], []⟩)) _ _ s
  refine wpAny_bind (wpAny_newList (wpAny_pure ⟨Code.quiet_builtin _ (by decide +kernel), codeAny_builtin entry_list_iadd' ?_⟩))
  show wpAny _ _ (Builtin.List.listExtendWith (.ref s.heap.objs.size) (.ref l) (.ref s.heap.objs.size)) _ _ { s with heap := s.heap.push (seqObj "list" #[] 0) }
  unfold Builtin.List.listExtendWith
  have ho' : (s.heap.push (seqObj "list" #[] 0)).get? l = some o := Heap.get?_push_of_some _ ho
  refine wpAny_bind (wpAny_typeOf (T := "tuple") ⟨o, ho', hc⟩ ?_)
  have ht : (Value.type "tuple" == Value.type "tuple") = true := by rfl
  rw [if_pos (by rw [ht]; simp)]
  refine wpAny_bind (listItems_at ho' hd ?_)
  refine wpAny_bind (listItems_at (xs := #[]) (n := 0) (Heap.get?_push_size _ rfl) rfl ?_)
  rw [if_neg (by simp)]
  refine wpAny_bind (listUpdate_at (xs := #[]) (n := 0) (Heap.get?_push_size _ rfl) rfl ?_ (Nat.zero_le _) (by show (#[] ++ vs.toArray).size ≤ sizeLine + 1; simp only [Array.size_append, List.size_toArray, List.length_nil]; omega))
  refine wpAny_pure ?_
  show wpAny (model prog w) A (do
      let o ← load s.heap.objs.size
      match o.data with
      | .seq xs _ => pure xs.toList
      | _ => unsupported "internal:collect") Q E { s with heap := (s.heap.push (seqObj "list" #[] 0)).update s.heap.objs.size (Obj.mapSeq (· ++ vs.toArray)) }
  refine wpAny_bind (wpAny_load (get?_update_seq (Heap.get?_push_size _ rfl) _) ?_)
  show wpAny _ _ (pure ((#[] : Array Value) ++ vs.toArray).toList) Q E _
  rw [show ((#[] : Array Value) ++ vs.toArray).toList = vs by simp]
  exact wpAny_pure h
end
end PyProof.Rows
namespace SrtO
open PySem PyProof.Rows Srt
section
variable {prog : Program} {w : World} {A : Around} {E : Value → Shared → Prop} {s : Shared}
theorem ga_sorted_ordT {l : Addr} {vs : List Value} {ltv : Value → Value → Bool} {Q : Value → Shared → Prop} (O : Swo ltv) (hl : s.heap.IsTuple l vs.toArray) (hz : vs.length ≤ sizeLine)
    (hS : 2 ≤ vs.length → ∀ (h₁ : Heap) (a : Addr), h₁.get? a = some (seqObj "list" vs.toArray 0) → (∀ b o, s.heap.get? b = some o → b ≠ a ∧ h₁.get? b = some o) → SortableO prog w A.in1.in1 { s with heap := h₁ } a vs ltv)
    (h : ∀ out : List Value, Srtd ltv out → Stb ltv out vs → Q (.ref (s.heap.objs.size + 1)) { s with heap := sortedAll s.heap vs out.toArray }) :
    wpAny (model prog w) A (call (.builtin "sorted") [.ref l]) Q E s := by
  refine Calls.call_function_entry kind_sorted plain_sorted entry_sorted (args_sorted1 _) ?_
  unfold Builtin.«sorted»
  refine wpAny_bind (m := checkCount "sorted" 1 1 _) (wpAny_pure ?_)
  refine wpAny_bind (ga_collect_tuple hl ?_ hz)
  refine wpAny_bind (wpAny_newList ?_ hz)
  have hsz : ((s.heap.push (seqObj "list" #[] 0)).update s.heap.objs.size (Obj.mapSeq (· ++ vs.toArray))).objs.size = s.heap.objs.size + 1 := by
    rw [Heap.size_update, size_push']
  have hoL : (((s.heap.push (seqObj "list" #[] 0)).update s.heap.objs.size (Obj.mapSeq (· ++ vs.toArray))).push (seqObj "list" vs.toArray 0)).get? (s.heap.objs.size + 1) = some (seqObj "list" vs.toArray 0) := by
    rw [← hsz]; exact Heap.get?_push_size _ rfl
  have keep : ∀ b o, s.heap.get? b = some o → b ≠ s.heap.objs.size + 1 ∧ (((s.heap.push (seqObj "list" #[] 0)).update s.heap.objs.size (Obj.mapSeq (· ++ vs.toArray))).push (seqObj "list" vs.toArray 0)).get? b = some o := fun b o q => by
    have hlt : b < s.heap.objs.size := Heap.lt_size q
    refine ⟨Nat.ne_of_lt (Nat.lt_succ_of_lt hlt), Heap.get?_push_of_some _ ?_⟩
    rw [Heap.get?_update_ne _ _ _ _ (Nat.ne_of_lt hlt)]
    exact Heap.get?_push_of_some _ q
  show wpAny _ _ _ _ _ { s with heap := ((s.heap.push (seqObj "list" #[] 0)).update s.heap.objs.size (Obj.mapSeq (· ++ vs.toArray))).push (seqObj "list" vs.toArray 0) }
  rw [hsz]
  refine wpAny_bind (wpAny_holding (wpAny_call_entry slot_list_sort ⟨_, hoL, rfl⟩ entry_list_sort (list_sort_ord O hoL hz (fun h2 => hS h2 _ _ hoL keep) fun out hs hb => ⟨_, rfl, ?_⟩) (args_list_sort _)))
  exact wpAny_pure ⟨_, rfl, h out hs hb⟩
end
end SrtO
namespace GA
open PySem PySem.Spec PyProof.Rows L2
/-- sorted(t), t a tuple of ints -/
def rSortedIT (K : PySem.W.Frag) : List V → Hp → VK → Prop := fun vs H Q => ∃ (a : Addr) (ns : List Int), vs = [V.ref a] ∧ SqT K H a (ns.map V.int) ∧
  ∀ (ns' : List Int), ns'.Perm ns → ns'.Pairwise (· ≤ ·) → New H (.lst (ns'.map V.int)) fun p H2 => Q (.ref p) H2
theorem cr_sortedIT {X : Cx} : CallR X (.builtin "sorted") (rSortedIT X.K) := by
  intro pins s σ H vs us Q I r h
  obtain ⟨a, ns, rfl, hs, q⟩ := h
  obtain ⟨its, rv, hl, hz⟩ := I.tuple hs
  rw [Vals.ref1 r]
  have hi := rv.ints
  refine SrtO.ga_sorted_ordT SrtO.swo_int hl (by rw [← rv.length]; exact hz) (fun h2 h₁ a' _ _ => SrtO.ints_sortable hi h2) fun out h1 h2 => ?_
  obtain ⟨k1, k2, k3⟩ := SrtO.ints_out hi h1 h2
  obtain ⟨ep, he'⟩ := PyProof.Rows.sortedAll_at s.heap its out.toArray
  have hlen : ((out.map SrtO.iv).map V.int).length ≤ sizeLine := by
    rw [List.length_map, k2.length_eq]
    rw [List.length_map] at hz
    exact hz
  exact ⟨.ref _, upd H (s.heap.objs.size + 1) (.lst ((out.map SrtO.iv).map V.int)), I.laid (t' := s.toks) (fun _ _ => PyProof.Rows.sortedAll_old) (Nat.le_succ _) ⟨hlen, out, ep, vals_of_ints k1, he'⟩, rfl, (q _ k2 k3).go (I.hok.fresh (Nat.le_succ _))⟩
def rSortedIL (K : PySem.W.Frag) : List V → Hp → VK → Prop := fun vs H Q => ∃ (a : Addr) (ns : List Int), vs = [V.ref a] ∧ SqL K H a (ns.map V.int) ∧
  ∀ (ns' : List Int), ns'.Perm ns → ns'.Pairwise (· ≤ ·) → New H (.lst (ns'.map V.int)) fun p H2 => Q (.ref p) H2
theorem cr_sortedIL {X : Cx} : CallR X (.builtin "sorted") (rSortedIL X.K) := CallR.weak cr_sortedI fun xs H Q h => by
  obtain ⟨a, ns, e, h1, q⟩ := h
  exact ⟨a, ns, e, h1, fun ns' p k1 k2 hp => (q ns' k1 k2).go hp⟩
/-- sorted(d), d a dict with int keys -/
def rSortedDN : List V → Hp → VK → Prop := fun xs H Q => ∃ (a : Addr) (kvs : List (Key × V)) (ks : List Int), xs = [.ref a] ∧ H a = some (.dK kvs) ∧ kvs.map (·.1) = ks.map Sum.inl ∧ ks.length < 64 ∧
  ∀ (ns' : List Int), ns'.Perm ks → ns'.Pairwise (· ≤ ·) → New H (.lst (ns'.map V.int)) fun p H2 => Q (.ref p) H2
theorem cr_sortedDN {X : Cx} (hc : X.calm = true) : CallR X (.builtin "sorted") rSortedDN := CallR.weak (call_sortedDI hc) fun xs H Q h => by
  obtain ⟨a, kvs, ks, e, h1, h2, h3, q⟩ := h
  exact ⟨a, kvs, ks, e, .inl h1, h2, h3, fun ys p k1 k2 hp => (q ys k1 k2).go hp⟩
/-- list(range(..)) -/
def tLstRgN (te : L2.St → Hp → (Int → Int → Hp → Prop) → Prop) : TE := fun σ H Q => te σ H fun a b H1 => RgOk a b ∧ New H1 (.lst (rgV a b)) fun q H2 => Q (.ref q) H2
/-- a range's ends, told: whatever is wanted is wanted of less -/
def MoR (te : L2.St → Hp → (Int → Int → Hp → Prop) → Prop) : Prop := ∀ σ H F F', (∀ a b H1, F a b H1 → F' a b H1) → te σ H F → te σ H F'
theorem pe_listRgN {X : Cx} {e : Expr} {te : L2.St → Hp → (Int → Int → Hp → Prop) → Prop} {p pos : Pos} (hc : X.calm = true) (hg : Gl X "list") (hm : X.mg "list" = none) (he : PRg X e te) (mo : MoR te) (na : starEach [e] X.env = (false, eval e X.env) :: starEach [] X.env := by rfl) : PE X (.Call (.Name "list" p) [e] [] pos) (tLstRgN te) :=
  PE.weak (pe_listRg hc hg hm he na) fun σ H Q q => mo σ H _ _ (fun a b H1 h => ⟨h.1, fun q hq => h.2.go hq⟩) q
def MoE (te : TE) : Prop := ∀ σ H Q Q', (∀ v H1, Q v H1 → Q' v H1) → te σ H Q → te σ H Q'
theorem mo_var {i : Nat} : MoE (tVar i) := fun _ _ _ _ h ⟨v, e, q⟩ => ⟨v, e, h _ _ q⟩
theorem mo_rg1 {te : TE} (h : MoE te) : MoR (tRg1 te) := fun σ H F F' k q => h σ H _ _ (fun v H1 ⟨n, e, z⟩ => ⟨n, e, k _ _ _ z⟩) q
theorem mo_op {te tb : TE} {r : R2} (h : MoE te) (hb : MoE tb) (hr : ∀ x y H Q Q', (∀ v H1, Q v H1 → Q' v H1) → r x y H Q → r x y H Q') : MoE (tOp r te tb) := fun σ H Q Q' k q => h σ H _ _ (fun v H1 z => hb σ H1 _ _ (fun u H2 z => hr _ _ _ _ _ k z) z) q
theorem mo_fld {K : PySem.W.Frag} {te : TE} {f : Str} (h : MoE te) : MoE (tFld K te f) := fun σ H Q Q' k q => h σ H _ _ (fun v H1 ⟨a, C, dx, fs, v', e1, e2, e3, e4, e5, z⟩ => ⟨a, C, dx, fs, v', e1, e2, e3, e4, e5, k _ _ z⟩) q
section
variable {K : PySem.W.Frag} {σ : L2.St} {H : Hp} {Q : VK}
theorem w_lstRg {te : L2.St → Hp → (Int → Int → Hp → Prop) → Prop} (q : te σ H fun a b H1 => RgOk a b ∧ New H1 (.lst (rgV a b)) fun q H2 => Q (.ref q) H2) : tLstRgN te σ H Q := q
theorem w_rg1 {te : TE} {F : Int → Int → Hp → Prop} (q : te σ H fun x H1 => ∃ n, x = .int n ∧ F 0 n H1) : tRg1 te σ H F := q
end
end GA
/-! ## GF -/
namespace GA
open PySem PySem.Spec PyProof.Rows L2
def ltW (u v : Int × Int) : Prop := u.1 < v.1 ∨ (u.1 = v.1 ∧ u.2 < v.2)
def in64 (u : Int × Int) : Prop := (0 ≤ u.1 ∧ u.1 < 64) ∧ (0 ≤ u.2 ∧ u.2 < 64)
section
variable {K : PySem.W.Frag} {H : Hp}
theorem ks_of : ∀ {xs : List V} {us : List (Int × Int)}, DpAll K H xs (us.map dP) → ∃ ks : List (Addr × List Int), xs = (ks.map fun p => V.ref p.1) ∧ (∀ p ∈ ks, SqT K H p.1 (p.2.map V.int)) ∧ ks.map (·.2) = us.map fun u => [u.1, u.2]
  | _, [], .nil => ⟨[], rfl, (fun _ h => nomatch h), rfl⟩
  | _, u :: us, .cons h t => by
    obtain ⟨ks, rfl, h1, h2⟩ := ks_of t
    obtain ⟨a, rfl, ha⟩ := dp_dP h
    refine ⟨(a, [u.1, u.2]) :: ks, rfl, fun p hp => ?_, by rw [List.map_cons, h2]; rfl⟩
    rcases List.mem_cons.mp hp with e | hp
    · rw [e]; exact ha
    · exact h1 p hp
end
theorem dp_ks {K : PySem.W.Frag} {H : Hp} : ∀ (M : List (Addr × List Int)) (ws : List (Int × Int)), (∀ q ∈ M, SqT K H q.1 (q.2.map V.int)) → M.map (·.2) = (ws.map fun u => [u.1, u.2]) → DpAll K H (M.map fun q => V.ref q.1) (ws.map dP)
  | [], [], _, _ => .nil
  | [], _ :: _, _, e => by simp at e
  | _ :: _, [], _, e => by simp at e
  | q :: M, w :: ws, h, e => by
    rw [List.map_cons, List.map_cons] at e
    injection e with e1 e2
    refine .cons ?_ (dp_ks M ws (fun p hp => h p (List.mem_cons_of_mem _ hp)) e2)
    have z := h q List.mem_cons_self
    rw [e1] at z
    exact dp_ofP z
section
variable {X : Cx}
/-- set(l), l a list of pairs of ints -/
def rSetPN (K : PySem.W.Frag) (P : Program) (w : World) : List V → Hp → VK → Prop := fun vs H Q => ∃ (l : Addr) (xs : List V) (us : List (Int × Int)), vs = [V.ref l] ∧ SqL K H l xs ∧ DpAll K H xs (us.map dP) ∧ us.length < 64 ∧
  ∀ a L H2, H a = none → (∀ o, G o H H2) → H2 a = some (SetTO P w a L) → (∀ p ∈ L, SqT K H2 p.1 (p.2.map V.int)) → (∀ ns, ns ∈ L.map (·.2) ↔ ∃ u ∈ us, ns = [u.1, u.2]) → Q (.ref a) H2
theorem cr_setPN (hc : X.calm = true) (hu : X.A.units + 64 < cLine) : CallR X (.type "set") (rSetPN X.K X.prog X.w) := CallR.weak (cr_setOfT hc hu) fun vs H Q h => by
  obtain ⟨l, xs, us, e, hl, hd, hz, q⟩ := h
  obtain ⟨ks, rfl, h1, h2⟩ := ks_of hd
  have hz' : ks.length = us.length := by
    have := congrArg List.length h2
    simpa using this
  refine ⟨l, ks, e, hl, h1, by omega, fun a L ha s1 s2 => ?_⟩
  refine q a L _ ha (fun _ => G.alloc ha) upd_same (fun p hp => sqT_t ((G.alloc (o := none) ha).tups) (h1 p (s1 p hp))) fun ns => ?_
  have mem : ∀ ns, ns ∈ ks.map (·.2) ↔ ∃ u ∈ us, ns = [u.1, u.2] := fun ns => by
    rw [h2, List.mem_map]
    exact ⟨fun ⟨u, a, b⟩ => ⟨u, a, b.symm⟩, fun ⟨u, a, b⟩ => ⟨u, a, b.symm⟩⟩
  rw [← mem]
  constructor
  · intro h
    obtain ⟨p, hp, rfl⟩ := List.mem_map.mp h
    exact List.mem_map.mpr ⟨p, s1 p hp, rfl⟩
  · intro h
    obtain ⟨p, hp, rfl⟩ := List.mem_map.mp h
    exact s2 p hp
theorem code_lt {u v : Int × Int} (hu : in64 u) (hv : in64 v) (h : TS.code 64 [u.1, u.2] ≤ TS.code 64 [v.1, v.2]) : ltW u v ∨ u = v := by
  unfold in64 at hu hv
  rw [code_pair, code_pair] at h
  unfold ltW
  by_cases e : u.1 = v.1
  · by_cases e2 : u.2 = v.2
    · exact .inr (Prod.ext e e2)
    · exact .inl (.inr ⟨e, by omega⟩)
  · exact .inl (.inl (by omega))
/-- sorted(s), s a set of pairs of small ints -/
def rSortSN (K : PySem.W.Frag) (P : Program) (w : World) : List V → Hp → VK → Prop := fun vs H Q => ∃ (a : Addr) (L : List (Addr × List Int)) (us : List (Int × Int)), vs = [V.ref a] ∧ H a = some (SetTO P w a L) ∧ (∀ p ∈ L, SqT K H p.1 (p.2.map V.int)) ∧ (∀ ns, ns ∈ L.map (·.2) ↔ ∃ u ∈ us, ns = [u.1, u.2]) ∧ (∀ u ∈ us, in64 u) ∧
  ∀ ws : List (Int × Int), ws.Pairwise ltW → (∀ u, u ∈ ws ↔ u ∈ us) → ws.length < 64 → ∀ p H2 ys, H p = none → (∀ o, G o H H2) → H2 p = some (.lst ys) → DpAll K H2 ys (ws.map dP) → Q (.ref p) H2
theorem cr_sortSN (hc : X.calm = true) : CallR X (.builtin "sorted") (rSortSN X.K X.prog X.w) := CallR.weak (cr_sortedT hc) fun vs H Q h => by
  obtain ⟨a, L, us, e, ha, hk, hm, hb, q⟩ := h
  have get : ∀ p ∈ L, ∃ u ∈ us, p.2 = [u.1, u.2] := fun p hp => (hm p.2).mp (List.mem_map.mpr ⟨p, hp, rfl⟩)
  refine ⟨a, L, 2, 64, e, ha, hk, by decide, fun p hp => ?_, fun L' p pm nd few pw hp => ?_⟩
  · obtain ⟨u, hu, e⟩ := get p hp
    have b := hb u hu
    unfold in64 at b
    rw [e]
    refine ⟨rfl, ?_⟩
    intro n hn
    rcases List.mem_cons.mp hn with e | hn
    · subst e; exact ⟨b.1.1, b.1.2⟩
    · have : n = u.2 := by simpa using hn
      subst this; exact ⟨b.2.1, b.2.2⟩
  · have get' : ∀ p ∈ L', ∃ u ∈ us, p.2 = [u.1, u.2] := fun p hp => get p (pm.mem_iff.mp hp)
    -- the pairs in their order
    have ws_of : ∀ M : List (Addr × List Int), (∀ p ∈ M, p ∈ L') → ∃ ws : List (Int × Int), M.map (·.2) = (ws.map fun u => [u.1, u.2]) ∧ (∀ u ∈ ws, u ∈ us) := by
      intro M
      induction M with
      | nil => exact fun _ => ⟨[], rfl, (fun _ h => nomatch h)⟩
      | cons p M ih =>
        intro hM
        obtain ⟨ws, h1, h2⟩ := ih fun p hp => hM p (List.mem_cons_of_mem _ hp)
        obtain ⟨u, hu, e⟩ := get' p (hM p List.mem_cons_self)
        refine ⟨u :: ws, by rw [List.map_cons, List.map_cons, h1, e], fun v hv => ?_⟩
        rcases List.mem_cons.mp hv with z | z
        · rw [z]; exact hu
        · exact h2 v z
    obtain ⟨ws, e1, e2⟩ := ws_of L' fun _ h => h
    have len : L'.length = ws.length := by
      have := congrArg List.length e1
      simpa using this
    have inj : ∀ u v : Int × Int, ([u.1, u.2] : List Int) = [v.1, v.2] → u = v := fun u v h => by
      injection h with h1 h2
      injection h2 with h2 _
      exact Prod.ext h1 h2
    have pw2 : (L'.map (·.2)).Pairwise (fun x y => TS.code 64 x ≤ TS.code 64 y) := List.pairwise_map.mpr pw
    rw [e1] at pw2 nd
    have asc : ws.Pairwise ltW := by
      rw [List.pairwise_map] at pw2
      have nd' : ws.Nodup := (List.pairwise_map.mp nd).imp fun h e => h (by rw [e])
      exact (List.pairwise_iff_getElem.mpr fun i j hi hj hij => by
        have h1 := List.pairwise_iff_getElem.mp pw2 i j hi hj hij
        have h2 := List.pairwise_iff_getElem.mp nd' i j hi hj hij
        rcases code_lt (hb _ (e2 _ (List.getElem_mem hi))) (hb _ (e2 _ (List.getElem_mem hj))) h1 with z | z
        · exact z
        · exact absurd z h2)
    refine q ws asc (fun u => ⟨e2 u, fun hu => ?_⟩) (by omega) p _ _ hp (fun _ => G.alloc hp) upd_same ?_
    · have h1 : ([u.1, u.2] : List Int) ∈ L.map (·.2) := (hm _).mpr ⟨u, hu, rfl⟩
      have h2 : ([u.1, u.2] : List Int) ∈ L'.map (·.2) := (pm.map (·.2)).mem_iff.mpr h1
      rw [e1, List.mem_map] at h2
      obtain ⟨v, hv, e⟩ := h2
      rw [← inj _ _ e]; exact hv
    · have t : Ts H (upd H p (.lst (L'.map fun q => V.ref q.1))) := (G.alloc (o := none) hp).tups
      have hk' : ∀ q ∈ L', SqT X.K _ q.1 (q.2.map V.int) := fun q hq => sqT_t t (hk q (pm.mem_iff.mp hq))
      exact dp_ks L' ws hk' e1
/-- sorted(l), l a list of pairs of small ints -/
def rSortPN (K : PySem.W.Frag) : List V → Hp → VK → Prop := fun vs H Q => ∃ (a : Addr) (xs : List V) (us : List (Int × Int)), vs = [V.ref a] ∧ SqL K H a xs ∧ DpAll K H xs (us.map dP) ∧ us.length < 64 ∧ (∀ u ∈ us, in64 u) ∧
  ∀ us' : List (Int × Int), us'.Perm us → us'.Pairwise (fun u v => ltW u v ∨ u = v) → ∀ p H2 ys, H p = none → (∀ o, G o H H2) → H2 p = some (.lst ys) → DpAll K H2 ys (us'.map dP) → Q (.ref p) H2
theorem cr_sortPN : CallR X (.builtin "sorted") (rSortPN X.K) := by
  classical
  intro pins s σ H vs us0 Q I r h
  obtain ⟨a, xs, us, rfl, hs, hd, hz, hb, q⟩ := h
  have uniq : ∀ {v : V} {u u' : Int × Int}, Dp X.K H v (dP u) → Dp X.K H v (dP u') → u = u' := fun {v u u'} h h' => by
    obtain ⟨a, rfl, ha⟩ := dp_dP h
    obtain ⟨a', e, ha'⟩ := dp_dP h'
    cases e
    have z := I.tuple_inj ha ha'
    injection z with z1 z2
    injection z2 with z2 _
    exact Prod.ext (V.int.inj z1) (V.int.inj z2)
  let f : V → Int × Int := fun v => if h : ∃ u, Dp X.K H v (dP u) then h.choose else (0, 0)
  have fv : ∀ {v : V} {u : Int × Int}, Dp X.K H v (dP u) → f v = u := fun {v u} h => by
    have hx : ∃ u, Dp X.K H v (dP u) := ⟨u, h⟩
    have : f v = hx.choose := dif_pos hx
    rw [this]
    exact uniq hx.choose_spec h
  have all : ∀ {ys : List V} {ws : List (Int × Int)}, DpAll X.K H ys (ws.map dP) → ws = ys.map f := by
    intro ys ws h
    induction ws generalizing ys with
    | nil => cases h; rfl
    | cons w ws ih =>
      cases h with
      | cons h t => rw [List.map_cons, fv h, ← ih t]
  have e0 := all hd
  have at_ : ∀ y ∈ xs, ∃ u ∈ us, Dp X.K H y (dP u) := fun y hy => by
    obtain ⟨i, hi⟩ := List.getElem?_of_mem hy
    obtain ⟨d, hd1, hd2⟩ := DpAll.get hd hi
    rw [List.getElem?_map] at hd1
    obtain ⟨u, hu, rfl⟩ := Option.map_eq_some_iff.mp hd1
    exact ⟨u, List.mem_of_getElem? hu, hd2⟩
  refine cr_sortT (d := 2) (B := 64) (by decide) pins s σ H _ us0 Q I r ⟨a, xs, rfl, hs, by rw [DpAll.length hd, List.length_map]; exact hz, fun x hx => ?_, fun ys p pm pw hp => ?_⟩
  · obtain ⟨u, hu, hx⟩ := at_ x hx
    obtain ⟨t, rfl, ht⟩ := dp_dP hx
    have b := hb u hu
    unfold in64 at b
    refine ⟨[u.1, u.2], ⟨t, rfl, ht⟩, rfl, ?_⟩
    intro n hn
    rcases List.mem_cons.mp hn with e | hn
    · subst e; exact ⟨b.1.1, b.1.2⟩
    · have : n = u.2 := by simpa using hn
      subst this; exact ⟨b.2.1, b.2.2⟩
  · have aty : ∀ y ∈ ys, ∃ u ∈ us, Dp X.K H y (dP u) := fun y hy => at_ y (pm.mem_iff.mp hy)
    have t : Ts H (upd H p (.lst ys)) := (G.alloc (o := none) hp).tups
    refine q (ys.map f) (by rw [e0]; exact pm.map f) ?_ p _ ys hp (fun _ => G.alloc hp) upd_same ?_
    · rw [List.pairwise_map]
      refine pw.imp_of_mem fun {y z} hy hz2 h => ?_
      obtain ⟨u, hu, h1⟩ := aty y hy
      obtain ⟨v, hv, h2⟩ := aty z hz2
      rw [fv h1, fv h2]
      obtain ⟨t1, rfl, k1⟩ := dp_dP h1
      obtain ⟨t2, rfl, k2⟩ := dp_dP h2
      exact code_lt (hb u hu) (hb v hv) (h _ _ ⟨t1, rfl, k1⟩ ⟨t2, rfl, k2⟩)
    · refine dpAll_t t _ _ (nls_pairs _) ?_
      clear pm pw hp t
      induction ys with
      | nil => exact .nil
      | cons y ys ih =>
        obtain ⟨u, hu, h1⟩ := aty y List.mem_cons_self
        refine .cons ?_ (ih fun y hy => aty y (List.mem_cons_of_mem _ hy))
        rw [fv h1]; exact h1
/-- t + u, tuples -/
def rCatN (K : PySem.W.Frag) : R2 := fun x y H Q => ∃ a b xs ys, x = .ref a ∧ y = .ref b ∧ SqT K H a xs ∧ SqT K H b ys ∧ xs.length + ys.length ≤ 100000 ∧ ∀ p H2, (∀ o, G o H H2) → SqT K H2 p (xs ++ ys) → Q (.ref p) H2
theorem op_catN : OpR X (binaryOp .Add) (rCatN X.K) := OpR.weak op_catA fun x y H Q h => by
  obtain ⟨a, b, xs, ys, e1, e2, h1, h2, hz, q⟩ := h
  refine ⟨a, b, xs, ys, e1, e2, h1, h2, sz hz, fun e => ?_, fun _ e => ?_, fun _ _ p hp => ?_⟩
  · subst e; exact q b H (fun _ => G.refl) h2
  · subst e; exact q a H (fun _ => G.refl) (by rw [List.append_nil]; exact h1)
  · exact q p _ (fun _ => G.alloc hp) (SqT.of upd_same)
end
end GA
/-! ## KH -/
namespace Mine
open PySem L2 GA
def top (i : Nat) : Stmt := PySem.Challenge.pw_growalong_k03_whole_who_reaches_whom.main.body.getD i (.Pass ⟨0, 0, 0, 0⟩)
abbrev s_BadWeb_init : Stmt := inClass (top 2) 0
abbrev N_BadWeb_init : List Str := ["self", "part"]
abbrev P_BadWeb_init : List Str := ["self", "part"]
theorem sc_BadWeb_init : FnScope N_BadWeb_init P_BadWeb_init (defScope s_BadWeb_init) := ⟨rfl, rfl, rfl, by decide +kernel, rfl, by decide +kernel, by decide +kernel⟩
abbrev s_NoOrder_init : Stmt := inClass (top 3) 0
abbrev N_NoOrder_init : List Str := ["self"]
abbrev P_NoOrder_init : List Str := ["self"]
theorem sc_NoOrder_init : FnScope N_NoOrder_init P_NoOrder_init (defScope s_NoOrder_init) := ⟨rfl, rfl, rfl, by decide +kernel, rfl, by decide +kernel, by decide +kernel⟩
abbrev s_NoMachine_init : Stmt := inClass (top 4) 0
abbrev N_NoMachine_init : List Str := ["self"]
abbrev P_NoMachine_init : List Str := ["self"]
theorem sc_NoMachine_init : FnScope N_NoMachine_init P_NoMachine_init (defScope s_NoMachine_init) := ⟨rfl, rfl, rfl, by decide +kernel, rfl, by decide +kernel, by decide +kernel⟩
abbrev s_is_integer : Stmt := top 6
abbrev N_is_integer : List Str := ["thing"]
abbrev P_is_integer : List Str := ["thing"]
theorem sc_is_integer : FnScope N_is_integer P_is_integer (defScope s_is_integer) := ⟨rfl, rfl, rfl, by decide +kernel, rfl, by decide +kernel, by decide +kernel⟩
abbrev s_is_between : Stmt := top 7
abbrev N_is_between : List Str := ["low", "high", "thing"]
abbrev P_is_between : List Str := ["low", "high", "thing"]
theorem sc_is_between : FnScope N_is_between P_is_between (defScope s_is_between) := ⟨rfl, rfl, rfl, by decide +kernel, rfl, by decide +kernel, by decide +kernel⟩
abbrev s_is_below : Stmt := top 8
abbrev N_is_below : List Str := ["bound", "thing"]
abbrev P_is_below : List Str := ["bound", "thing"]
theorem sc_is_below : FnScope N_is_below P_is_below (defScope s_is_below) := ⟨rfl, rfl, rfl, by decide +kernel, rfl, by decide +kernel, by decide +kernel⟩
abbrev s_is_tuple_of : Stmt := top 9
abbrev N_is_tuple_of : List Str := ["least", "most", "thing"]
abbrev P_is_tuple_of : List Str := ["least", "most", "thing"]
theorem sc_is_tuple_of : FnScope N_is_tuple_of P_is_tuple_of (defScope s_is_tuple_of) := ⟨rfl, rfl, rfl, by decide +kernel, rfl, by decide +kernel, by decide +kernel⟩
abbrev s_are_below : Stmt := top 10
abbrev N_are_below : List Str := ["bound", "things", "thing"]
abbrev P_are_below : List Str := ["bound", "things"]
theorem sc_are_below : FnScope N_are_below P_are_below (defScope s_are_below) := ⟨rfl, rfl, rfl, by decide +kernel, rfl, by decide +kernel, by decide +kernel⟩
abbrev s_is_unlike_pair : Stmt := top 11
abbrev N_is_unlike_pair : List Str := ["bound", "thing"]
abbrev P_is_unlike_pair : List Str := ["bound", "thing"]
theorem sc_is_unlike_pair : FnScope N_is_unlike_pair P_is_unlike_pair (defScope s_is_unlike_pair) := ⟨rfl, rfl, rfl, by decide +kernel, rfl, by decide +kernel, by decide +kernel⟩
abbrev s_Web_init : Stmt := inClass (top 14) 0
abbrev N_Web_init : List Str := ["self", "machines", "wires", "at"]
abbrev P_Web_init : List Str := ["self", "machines", "wires"]
theorem sc_Web_init : FnScope N_Web_init P_Web_init (defScope s_Web_init) := ⟨rfl, rfl, rfl, by decide +kernel, rfl, by decide +kernel, by decide +kernel⟩
abbrev s_Web_eq : Stmt := inClass (top 14) 1
abbrev N_Web_eq : List Str := ["self", "other"]
abbrev P_Web_eq : List Str := ["self", "other"]
theorem sc_Web_eq : FnScope N_Web_eq P_Web_eq (defScope s_Web_eq) := ⟨rfl, rfl, rfl, by decide +kernel, rfl, by decide +kernel, by decide +kernel⟩
abbrev s_first_wrong_wire : Stmt := top 15
abbrev N_first_wrong_wire : List Str := ["machines", "wires", "at", "wire"]
abbrev P_first_wrong_wire : List Str := ["machines", "wires"]
theorem sc_first_wrong_wire : FnScope N_first_wrong_wire P_first_wrong_wire (defScope s_first_wrong_wire) := ⟨rfl, rfl, rfl, by decide +kernel, rfl, by decide +kernel, by decide +kernel⟩
abbrev s_web_of_any_size : Stmt := top 16
abbrev N_web_of_any_size : List Str := ["machines", "wires", "web"]
abbrev P_web_of_any_size : List Str := ["machines", "wires"]
theorem sc_web_of_any_size : FnScope N_web_of_any_size P_web_of_any_size (defScope s_web_of_any_size) := ⟨rfl, rfl, rfl, by decide +kernel, rfl, by decide +kernel, by decide +kernel⟩
abbrev s_ways_from : Stmt := top 17
abbrev N_ways_from : List Str := ["machine", "wires", "onward", "y", "x", "found", "queue", "at", "here"]
abbrev P_ways_from : List Str := ["machine", "wires"]
theorem sc_ways_from : FnScope N_ways_from P_ways_from (defScope s_ways_from) := ⟨rfl, rfl, rfl, by decide +kernel, rfl, by decide +kernel, by decide +kernel⟩
abbrev s_renamed : Stmt := top 18
abbrev N_renamed : List Str := ["web", "order", "y", "x"]
abbrev P_renamed : List Str := ["web", "order"]
theorem sc_renamed : FnScope N_renamed P_renamed (defScope s_renamed) := ⟨rfl, rfl, rfl, by decide +kernel, rfl, by decide +kernel, by decide +kernel⟩
abbrev s_is_order : Stmt := top 19
abbrev N_is_order : List Str := ["machines", "thing"]
abbrev P_is_order : List Str := ["machines", "thing"]
theorem sc_is_order : FnScope N_is_order P_is_order (defScope s_is_order) := ⟨rfl, rfl, rfl, by decide +kernel, rfl, by decide +kernel, by decide +kernel⟩
abbrev s_check_machine : Stmt := top 20
abbrev N_check_machine : List Str := ["web", "machine"]
abbrev P_check_machine : List Str := ["web", "machine"]
theorem sc_check_machine : FnScope N_check_machine P_check_machine (defScope s_check_machine) := ⟨rfl, rfl, rfl, by decide +kernel, rfl, by decide +kernel, by decide +kernel⟩
abbrev s_reached : Stmt := top 21
abbrev N_reached : List Str := ["web", "machine"]
abbrev P_reached : List Str := ["web", "machine"]
theorem sc_reached : FnScope N_reached P_reached (defScope s_reached) := ⟨rfl, rfl, rfl, by decide +kernel, rfl, by decide +kernel, by decide +kernel⟩
abbrev s_is_strong : Stmt := top 22
abbrev N_is_strong : List Str := ["web", "machine"]
abbrev P_is_strong : List Str := ["web"]
theorem sc_is_strong : FnScope N_is_strong P_is_strong (defScope s_is_strong) := ⟨rfl, rfl, rfl, by decide +kernel, rfl, by decide +kernel, by decide +kernel⟩
abbrev s__law_hand : Stmt := top 24
abbrev N__law_hand : List Str := ["_law_script", "_law_cells", "_law_cell"]
abbrev P__law_hand : List Str := ["_law_script"]
theorem sc__law_hand : FnScope N__law_hand P__law_hand (defScope s__law_hand) := ⟨rfl, rfl, rfl, by decide +kernel, rfl, by decide +kernel, by decide +kernel⟩
abbrev s__law_draw : Stmt := top 25
abbrev N__law_draw : List Str := ["_law_hand_here", "_law_many", "_law_cell", "_law_digit", "_law_number"]
abbrev P__law_draw : List Str := ["_law_hand_here", "_law_many"]
theorem sc__law_draw : FnScope N__law_draw P__law_draw (defScope s__law_draw) := ⟨rfl, rfl, rfl, by decide +kernel, rfl, by decide +kernel, by decide +kernel⟩
abbrev s__law_is : Stmt := top 26
abbrev N__law_is : List Str := ["_law_told", "_law_due", "_law_one", "_law_two"]
abbrev P__law_is : List Str := ["_law_told", "_law_due"]
theorem sc__law_is : FnScope N__law_is P__law_is (defScope s__law_is) := ⟨rfl, rfl, rfl, by decide +kernel, rfl, by decide +kernel, by decide +kernel⟩
abbrev s__law_flag : Stmt := top 27
abbrev N__law_flag : List Str := ["_law_told", "_law_due"]
abbrev P__law_flag : List Str := ["_law_told", "_law_due"]
theorem sc__law_flag : FnScope N__law_flag P__law_flag (defScope s__law_flag) := ⟨rfl, rfl, rfl, by decide +kernel, rfl, by decide +kernel, by decide +kernel⟩
abbrev s__law_web : Stmt := top 28
abbrev N__law_web : List Str := ["_law_hand_here", "_law_machines", "_law_kind", "_law_found", "_law_y", "_law_x", "_law_near"]
abbrev P__law_web : List Str := ["_law_hand_here", "_law_machines"]
theorem sc__law_web : FnScope N__law_web P__law_web (defScope s__law_web) := ⟨rfl, rfl, rfl, by decide +kernel, rfl, by decide +kernel, by decide +kernel⟩
abbrev s__law_table : Stmt := top 29
abbrev N__law_table : List Str := ["_law_machines", "_law_wires", "_law_y", "_law_x", "_law_found", "_law_middle"]
abbrev P__law_table : List Str := ["_law_machines", "_law_wires"]
theorem sc__law_table : FnScope N__law_table P__law_table (defScope s__law_table) := ⟨rfl, rfl, rfl, by decide +kernel, rfl, by decide +kernel, by decide +kernel⟩
abbrev s__law_more : Stmt := top 30
abbrev N__law_more : List Str := ["_law_hand_here", "_law_machines", "_law_wires", "_law_one", "_law_other", "_law_x", "_law_y"]
abbrev P__law_more : List Str := ["_law_hand_here"]
theorem sc__law_more : FnScope N__law_more P__law_more (defScope s__law_more) := ⟨rfl, rfl, rfl, by decide +kernel, rfl, by decide +kernel, by decide +kernel⟩
abbrev s_law : Stmt := top 31
abbrev N_law : List Str := ["_law_script", "_law_hand_here", "_law_turn", "_law_machines", "_law_wires", "_law_web_here", "_law_table_here", "_law_order", "_law_y", "_law_due", "_law_x", "_law_row", "_law_other"]
abbrev P_law : List Str := ["_law_script"]
theorem sc_law : FnScope N_law P_law (defScope s_law) := ⟨rfl, rfl, rfl, by decide +kernel, rfl, by decide +kernel, by decide +kernel⟩
structure Ads where
  f_is_integer : Addr
  d_is_integer : FuncData
  f_is_between : Addr
  d_is_between : FuncData
  f_is_below : Addr
  d_is_below : FuncData
  f_is_tuple_of : Addr
  d_is_tuple_of : FuncData
  f_are_below : Addr
  d_are_below : FuncData
  f_is_unlike_pair : Addr
  d_is_unlike_pair : FuncData
  f_Web_init : Addr
  d_Web_init : FuncData
  f_first_wrong_wire : Addr
  d_first_wrong_wire : FuncData
  f_web_of_any_size : Addr
  d_web_of_any_size : FuncData
  f_ways_from : Addr
  d_ways_from : FuncData
  f_renamed : Addr
  d_renamed : FuncData
  f_is_order : Addr
  d_is_order : FuncData
  f_check_machine : Addr
  d_check_machine : FuncData
  f_reached : Addr
  d_reached : FuncData
  f_is_strong : Addr
  d_is_strong : FuncData
  f__law_hand : Addr
  d__law_hand : FuncData
  f__law_draw : Addr
  d__law_draw : FuncData
  f__law_is : Addr
  d__law_is : FuncData
  f__law_flag : Addr
  d__law_flag : FuncData
  f__law_web : Addr
  d__law_web : FuncData
  f__law_table : Addr
  d__law_table : FuncData
  f__law_more : Addr
  d__law_more : FuncData
  f_law : Addr
  d_law : FuncData
  c_Web : Addr
  t_MOST_MACHINES : Tok
structure Txt (K : PySem.W.Frag) (mg : Str → Option Value) (a : Ads) : Prop where
  F_is_integer : Fun K "is_integer" "is_integer" s_is_integer a.f_is_integer a.d_is_integer
  b_is_integer : Binds K a.d_is_integer P_is_integer []
  m_is_integer : mg "is_integer" = some (.ref a.f_is_integer)
  F_is_between : Fun K "is_between" "is_between" s_is_between a.f_is_between a.d_is_between
  b_is_between : Binds K a.d_is_between P_is_between []
  m_is_between : mg "is_between" = some (.ref a.f_is_between)
  F_is_below : Fun K "is_below" "is_below" s_is_below a.f_is_below a.d_is_below
  b_is_below : Binds K a.d_is_below P_is_below []
  m_is_below : mg "is_below" = some (.ref a.f_is_below)
  F_is_tuple_of : Fun K "is_tuple_of" "is_tuple_of" s_is_tuple_of a.f_is_tuple_of a.d_is_tuple_of
  b_is_tuple_of : Binds K a.d_is_tuple_of P_is_tuple_of []
  m_is_tuple_of : mg "is_tuple_of" = some (.ref a.f_is_tuple_of)
  F_are_below : Fun K "are_below" "are_below" s_are_below a.f_are_below a.d_are_below
  b_are_below : Binds K a.d_are_below P_are_below []
  m_are_below : mg "are_below" = some (.ref a.f_are_below)
  F_is_unlike_pair : Fun K "is_unlike_pair" "is_unlike_pair" s_is_unlike_pair a.f_is_unlike_pair a.d_is_unlike_pair
  b_is_unlike_pair : Binds K a.d_is_unlike_pair P_is_unlike_pair []
  m_is_unlike_pair : mg "is_unlike_pair" = some (.ref a.f_is_unlike_pair)
  F_Web_init : Fun K "__init__" "Web.__init__" s_Web_init a.f_Web_init a.d_Web_init
  b_Web_init : Binds K a.d_Web_init P_Web_init []
  F_first_wrong_wire : Fun K "first_wrong_wire" "first_wrong_wire" s_first_wrong_wire a.f_first_wrong_wire a.d_first_wrong_wire
  b_first_wrong_wire : Binds K a.d_first_wrong_wire P_first_wrong_wire []
  m_first_wrong_wire : mg "first_wrong_wire" = some (.ref a.f_first_wrong_wire)
  F_web_of_any_size : Fun K "web_of_any_size" "web_of_any_size" s_web_of_any_size a.f_web_of_any_size a.d_web_of_any_size
  b_web_of_any_size : Binds K a.d_web_of_any_size P_web_of_any_size []
  m_web_of_any_size : mg "web_of_any_size" = some (.ref a.f_web_of_any_size)
  F_ways_from : Fun K "ways_from" "ways_from" s_ways_from a.f_ways_from a.d_ways_from
  b_ways_from : Binds K a.d_ways_from P_ways_from []
  m_ways_from : mg "ways_from" = some (.ref a.f_ways_from)
  F_renamed : Fun K "renamed" "renamed" s_renamed a.f_renamed a.d_renamed
  b_renamed : Binds K a.d_renamed P_renamed []
  m_renamed : mg "renamed" = some (.ref a.f_renamed)
  F_is_order : Fun K "is_order" "is_order" s_is_order a.f_is_order a.d_is_order
  b_is_order : Binds K a.d_is_order P_is_order []
  m_is_order : mg "is_order" = some (.ref a.f_is_order)
  F_check_machine : Fun K "check_machine" "check_machine" s_check_machine a.f_check_machine a.d_check_machine
  b_check_machine : Binds K a.d_check_machine P_check_machine []
  m_check_machine : mg "check_machine" = some (.ref a.f_check_machine)
  F_reached : Fun K "reached" "reached" s_reached a.f_reached a.d_reached
  b_reached : Binds K a.d_reached P_reached []
  m_reached : mg "reached" = some (.ref a.f_reached)
  F_is_strong : Fun K "is_strong" "is_strong" s_is_strong a.f_is_strong a.d_is_strong
  b_is_strong : Binds K a.d_is_strong P_is_strong []
  m_is_strong : mg "is_strong" = some (.ref a.f_is_strong)
  F__law_hand : Fun K "_law_hand" "_law_hand" s__law_hand a.f__law_hand a.d__law_hand
  b__law_hand : Binds K a.d__law_hand P__law_hand []
  m__law_hand : mg "_law_hand" = some (.ref a.f__law_hand)
  F__law_draw : Fun K "_law_draw" "_law_draw" s__law_draw a.f__law_draw a.d__law_draw
  b__law_draw : Binds K a.d__law_draw P__law_draw []
  m__law_draw : mg "_law_draw" = some (.ref a.f__law_draw)
  F__law_is : Fun K "_law_is" "_law_is" s__law_is a.f__law_is a.d__law_is
  b__law_is : Binds K a.d__law_is P__law_is []
  m__law_is : mg "_law_is" = some (.ref a.f__law_is)
  F__law_flag : Fun K "_law_flag" "_law_flag" s__law_flag a.f__law_flag a.d__law_flag
  b__law_flag : Binds K a.d__law_flag P__law_flag []
  m__law_flag : mg "_law_flag" = some (.ref a.f__law_flag)
  F__law_web : Fun K "_law_web" "_law_web" s__law_web a.f__law_web a.d__law_web
  b__law_web : Binds K a.d__law_web P__law_web []
  m__law_web : mg "_law_web" = some (.ref a.f__law_web)
  F__law_table : Fun K "_law_table" "_law_table" s__law_table a.f__law_table a.d__law_table
  b__law_table : Binds K a.d__law_table P__law_table []
  m__law_table : mg "_law_table" = some (.ref a.f__law_table)
  F__law_more : Fun K "_law_more" "_law_more" s__law_more a.f__law_more a.d__law_more
  b__law_more : Binds K a.d__law_more P__law_more []
  m__law_more : mg "_law_more" = some (.ref a.f__law_more)
  F_law : Fun K "law" "law" s_law a.f_law a.d_law
  b_law : Binds K a.d_law P_law []
  m_law : mg "law" = some (.ref a.f_law)
  m_Web : mg "Web" = some (.ref a.c_Web)
  cl_Web : Cls K a.c_Web
  K_Web : Mk K a.c_Web a.f_Web_init
  na_Web_machines : NoAttr K a.c_Web "machines"
  na_Web_wires : NoAttr K a.c_Web "wires"
  m_MOST_MACHINES : mg "MOST_MACHINES" = some (.int 7 a.t_MOST_MACHINES)
  n_isinstance : mg "isinstance" = none
  n_int : mg "int" = none
  n_bool : mg "bool" = none
  n_tuple : mg "tuple" = none
  n_len : mg "len" = none
  n_all : mg "all" = none
  n_enumerate : mg "enumerate" = none
  n_sorted : mg "sorted" = none
  n_set : mg "set" = none
  n_list : mg "list" = none
  n_range : mg "range" = none
  n_zip : mg "zip" = none
  n_abs : mg "abs" = none
  n_min : mg "min" = none
end Mine
/-! ## KP -/
namespace Mine
/-! ### ways of wires -/
inductive Reach (ws : List (Int × Int)) : Int → Int → Prop where
  | refl (y : Int) : Reach ws y y
  | step {y z x : Int} : Reach ws y z → (z, x) ∈ ws → Reach ws y x
theorem Reach.trans {ws : List (Int × Int)} {y z x : Int} (h : Reach ws y z) (h' : Reach ws z x) : Reach ws y x := by
  induction h' with
  | refl => exact h
  | step _ e ih => exact .step ih e
theorem Reach.one {ws : List (Int × Int)} {y x : Int} (h : (y, x) ∈ ws) : Reach ws y x := .step (.refl y) h
/-- by way of machines below k alone -/
inductive Via (ws : List (Int × Int)) (k : Int) : Int → Int → Prop where
  | refl (y : Int) : Via ws k y y
  | one {y x : Int} : (y, x) ∈ ws → Via ws k y x
  | mid {y z x : Int} : z < k → Via ws k y z → Via ws k z x → Via ws k y x
theorem Via.up {ws : List (Int × Int)} {k : Int} {y x : Int} (h : Via ws (k + 1) y x) : Via ws k y x ∨ (Via ws k y k ∧ Via ws k k x) := by
  induction h with
  | refl y => exact .inl (.refl y)
  | one e => exact .inl (.one e)
  | mid hz _ _ h1 h2 =>
    rename_i y z x _ _
    by_cases e : z = k
    · subst e
      have a : Via ws z y z := by rcases h1 with h | h; exact h; exact h.1
      have b : Via ws z z x := by rcases h2 with h | h; exact h; exact h.2
      exact .inr ⟨a, b⟩
    · have hz' : z < k := by omega
      rcases h1 with h1 | h1
      · rcases h2 with h2 | h2
        · exact .inl (.mid hz' h1 h2)
        · exact .inr ⟨.mid hz' h1 h2.1, h2.2⟩
      · rcases h2 with h2 | h2
        · exact .inr ⟨h1.1, .mid hz' h1.2 h2⟩
        · exact .inr ⟨h1.1, h2.2⟩
theorem Reach.via {ws : List (Int × Int)} {m : Int} (hm : ∀ u ∈ ws, u.1 < m ∧ u.2 < m) {y x : Int} (h : Reach ws y x) : Via ws m y x := by
  induction h with
  | refl => exact .refl _
  | step _ e ih => exact .mid (hm _ e).1 ih (.one e)

/-! ### what is found on the way -/
structure Fnd (m : Int) (ws : List (Int × Int)) (y : Int) (ks ls : List Int) : Prop where
  nd : ks.Nodup
  rng : ∀ k ∈ ks, 0 ≤ k ∧ k < m
  reach : ∀ k ∈ ks, Reach ws y k
  sub : ∀ k ∈ ls, k ∈ ks
  begin_ : y ∈ ks
theorem Fnd.len {m : Int} {ws : List (Int × Int)} {y : Int} {ks ls : List Int} (h : Fnd m ws y ks ls) (hm : m ≤ 7) : ks.length ≤ 7 := by
  have := List.Nodup.length_le_of_subset (l₂ := (List.range 7).map fun i => ((i : Nat) : Int)) h.nd fun k hk => by
    have := h.rng k hk
    exact List.mem_map.mpr ⟨k.toNat, List.mem_range.mpr (by omega), by omega⟩
  simpa using this
/-- all ways out of those that are done are taken -/
def Shut (ws : List (Int × Int)) (ks ls : List Int) : Prop := ∀ k ∈ ks, k ∈ ls ∨ ∀ z, (k, z) ∈ ws → z ∈ ks
theorem Fnd.all {m : Int} {ws : List (Int × Int)} {y : Int} {ks : List Int} (h : Fnd m ws y ks []) (c : Shut ws ks []) (z : Int) : z ∈ ks ↔ Reach ws y z := by
  refine ⟨h.reach z, fun r => ?_⟩
  induction r with
  | refl => exact h.begin_
  | step _ e ih =>
    rcases c _ ih with q | q
    · exact absurd q (by simp)
    · exact q _ e
/-- within the turn of one machine: the wires of the first i are looked at -/
structure Trn (m : Int) (ws : List (Int × Int)) (y : Int) (ks0 ls0 : List Int) (here : Int) (i : Nat) (ks ls : List Int) : Prop where
  f : Fnd m ws y ks ls
  shut : ∀ k ∈ ks, k ∈ ls ∨ k = here ∨ ∀ z, (k, z) ∈ ws → z ∈ ks
  seen : ∀ (j : Nat) (x : Int), j < i → ws[j]? = some (here, x) → x ∈ ks
  cnt : ls.length + ks0.length = ls0.length + ks.length
  more : ks0.length ≤ ks.length
  at_ : here ∈ ks
theorem Trn.skip {m : Int} {ws : List (Int × Int)} {y : Int} {ks0 ls0 : List Int} {here : Int} {i : Nat} {ks ls : List Int} (h : Trn m ws y ks0 ls0 here i ks ls) {u : Int × Int} (hu : ws[i]? = some u) (c : u.1 = here → u.2 ∈ ks) : Trn m ws y ks0 ls0 here (i + 1) ks ls :=
  ⟨h.f, h.shut, fun j x hj e => by
    by_cases c2 : j = i
    · subst c2
      rw [hu] at e
      cases e
      exact c rfl
    · exact h.seen j x (by omega) e, h.cnt, h.more, h.at_⟩
theorem Trn.add {m : Int} {ws : List (Int × Int)} {y : Int} {ks0 ls0 : List Int} {here : Int} {i : Nat} {ks ls : List Int} (h : Trn m ws y ks0 ls0 here i ks ls) {u : Int × Int} (hu : ws[i]? = some u) (c : u.1 = here) (n : u.2 ∉ ks) (hr : 0 ≤ u.2 ∧ u.2 < m) :
    Trn m ws y ks0 ls0 here (i + 1) (ks ++ [u.2]) (ls ++ [u.2]) := by
  have hm : u ∈ ws := List.mem_of_getElem? hu
  refine ⟨⟨?_, ?_, ?_, ?_, List.mem_append_left _ h.f.begin_⟩, ?_, ?_, ?_, ?_, List.mem_append_left _ h.at_⟩
  · rw [List.nodup_append]
    exact ⟨h.f.nd, by simp, fun a ha b hb => by
      have e : b = u.2 := by simpa using hb
      rw [e]; intro e2; exact n (e2 ▸ ha)⟩
  · intro k hk
    rcases List.mem_append.mp hk with z | z
    · exact h.f.rng k z
    · have e : k = u.2 := by simpa using z
      rw [e]; exact hr
  · intro k hk
    rcases List.mem_append.mp hk with z | z
    · exact h.f.reach k z
    · have e : k = u.2 := by simpa using z
      rw [e]
      refine .step (h.f.reach here h.at_) ?_
      rw [← c]; exact hm
  · intro k hk
    rcases List.mem_append.mp hk with z | z
    · exact List.mem_append_left _ (h.f.sub k z)
    · exact List.mem_append_right _ z
  · intro k hk
    rcases List.mem_append.mp hk with z | z
    · rcases h.shut k z with q | q | q
      · exact .inl (List.mem_append_left _ q)
      · exact .inr (.inl q)
      · exact .inr (.inr fun z hz => List.mem_append_left _ (q z hz))
    · exact .inl (List.mem_append_right _ z)
  · intro j x hj e
    by_cases c2 : j = i
    · subst c2
      rw [hu] at e
      cases e
      exact List.mem_append_right _ (by simp)
    · exact List.mem_append_left _ (h.seen j x (by omega) e)
  · have := h.cnt
    simp only [List.length_append, List.length_singleton]
    omega
  · have := h.more
    simp only [List.length_append]
    omega
theorem Trn.done {m : Int} {ws : List (Int × Int)} {y : Int} {ks0 ls0 : List Int} {here : Int} {ks ls : List Int} (h : Trn m ws y ks0 ls0 here ws.length ks ls) : Shut ws ks ls := fun k hk => by
  rcases h.shut k hk with q | q | q
  · exact .inl q
  · refine .inr fun z hz => ?_
    obtain ⟨j, hj⟩ := List.getElem?_of_mem hz
    rw [q] at hj
    exact h.seen j z (List.getElem?_eq_some_iff.mp hj).1 hj
  · exact .inr q
end Mine
/-! ## K1 -/
section
open PySem L2 GA
local macro_rules
  | `(tactic| walk_at "w") => `(tactic| first
    | ((with_reducible refine' GA.w_var ?e ?_); (case e => exact rfl))
    | (with_reducible refine' GA.w_c ?_)
    | (with_reducible refine' GA.w_cons ?_)
    | (with_reducible refine' GA.w_nil ?_)
    | (with_reducible refine' GA.w_op ?_)
    | (with_reducible refine' GA.r_I0 ?_)
    | (with_reducible refine' GA.w_bl ?_)
    | (with_reducible refine' GA.w_seq ?_)
    | (with_reducible refine' GA.w_set ?_)
    | (with_reducible refine' GA.w_ret ?_)
    | (with_reducible refine' GA.w_ifS ?_)
    | (with_reducible refine' GA.w_test ?_)
    | (with_reducible refine' GA.w_tB ?_)
    | (with_reducible refine' GA.w_not ?_)
    | (with_reducible refine' GA.w_and ?_)
    | (with_reducible refine' GA.w_or ?_)
    | (with_reducible refine' GA.w_andV ?_)
    | (with_reducible refine' GA.w_orV ?_)
    | (with_reducible refine' GA.w_notV ?_)
    | (with_reducible refine' GA.w_blc ?_)
    | (with_reducible refine' GA.w_if ?_)
    | (with_reducible refine' GA.w_CB ?_)
    | (with_reducible refine' GA.w_call ?_)
    | (with_reducible refine' GA.w_tupN ?_)
    | (with_reducible refine' GA.w_lstN ?_)
    | (with_reducible refine' GA.w_chain ?_)
    | (with_reducible refine' GA.w_drop ?_)
    | (with_reducible refine' GA.w_next ?_)
    | (with_reducible refine' GA.w_break ?_)
    | (with_reducible refine' GA.w_un ?_)
    | (with_reducible refine' GA.r_U ?_)
    | (with_reducible refine' GA.r_eqI ?_)
    | (with_reducible refine' GA.r_neI ?_)
    | (with_reducible refine' GA.r_eqB ?_)
    | (with_reducible refine' GA.r_neB ?_)
    | (with_reducible refine' GA.w_fld ?_)
    | (with_reducible refine' GA.w_sfld ?_)
    | (with_reducible refine' GA.w_sl ?_)
    | (with_reducible refine' GA.w_part ?_)
    | (with_reducible refine' GA.w_noPart ?_)
    | (with_reducible refine' GA.w_inti ?_)
    | (with_reducible refine' GA.w_retN ?_)
    | (with_reducible refine' GA.w_gsub ?_)
    | (with_reducible refine' GA.w_gname ?_)
    | (with_reducible refine' L2.iteT ?_)
    | (with_reducible refine' L2.iteF ?_)
    | (with_reducible refine' GA.w_nt ?_)
    | (with_reducible refine' GA.w_nf ?_)
    | (with_reducible refine' GA.w_isN ?_)
    | (with_reducible refine' GA.w_notN ?_)
    | (with_reducible refine' GA.w_yes ?_)
    | (with_reducible refine' GA.w_lc ?_)
    | (with_reducible refine' GA.w_make ?_)
    | (with_reducible refine' GA.w_for ?_)
    | (with_reducible refine' GA.w_rng1 ?_)
    | (with_reducible refine' GA.w_rng2 ?_)
    | (with_reducible refine' GA.w_itup ?_)
    | (with_reducible refine' GA.w_ilist ?_)
    | (with_reducible refine' GA.w_ienum ?_)
    | (with_reducible refine' GA.w_BM ?_)
    | (with_reducible refine' GA.w_BM0 ?_)
    | (with_reducible refine' GA.w_izip ?_)
    | (with_reducible refine' GA.w_asg ?_))
  | `(tactic| walk_at "wm") => `(tactic| first
    | ((with_reducible refine' GA.w_var ?e ?_); (case e => exact rfl))
    | (with_reducible refine' GA.w_c ?_)
    | (with_reducible refine' GA.w_cons ?_)
    | (with_reducible refine' GA.w_nil ?_)
    | (with_reducible refine' GA.w_op ?_)
    | (with_reducible refine' GA.r_I0 ?_)
    | (with_reducible refine' GA.w_bl ?_)
    | (with_reducible refine' GA.w_set ?_)
    | (with_reducible refine' GA.w_ret ?_)
    | (with_reducible refine' GA.w_ifS ?_)
    | (with_reducible refine' GA.w_test ?_)
    | (with_reducible refine' GA.w_tB ?_)
    | (with_reducible refine' GA.w_not ?_)
    | (with_reducible refine' GA.w_and ?_)
    | (with_reducible refine' GA.w_or ?_)
    | (with_reducible refine' GA.w_andV ?_)
    | (with_reducible refine' GA.w_orV ?_)
    | (with_reducible refine' GA.w_notV ?_)
    | (with_reducible refine' GA.w_blc ?_)
    | (with_reducible refine' GA.w_if ?_)
    | (with_reducible refine' GA.w_CB ?_)
    | (with_reducible refine' GA.w_call ?_)
    | (with_reducible refine' GA.w_tupN ?_)
    | (with_reducible refine' GA.w_lstN ?_)
    | (with_reducible refine' GA.w_chain ?_)
    | (with_reducible refine' GA.w_drop ?_)
    | (with_reducible refine' GA.w_next ?_)
    | (with_reducible refine' GA.w_break ?_)
    | (with_reducible refine' GA.w_un ?_)
    | (with_reducible refine' GA.r_U ?_)
    | (with_reducible refine' GA.r_eqI ?_)
    | (with_reducible refine' GA.r_neI ?_)
    | (with_reducible refine' GA.r_eqB ?_)
    | (with_reducible refine' GA.r_neB ?_)
    | (with_reducible refine' GA.w_fld ?_)
    | (with_reducible refine' GA.w_sfld ?_)
    | (with_reducible refine' GA.w_sl ?_)
    | (with_reducible refine' GA.w_part ?_)
    | (with_reducible refine' GA.w_noPart ?_)
    | (with_reducible refine' GA.w_inti ?_)
    | (with_reducible refine' GA.w_retN ?_)
    | (with_reducible refine' GA.w_gsub ?_)
    | (with_reducible refine' GA.w_gname ?_)
    | (with_reducible refine' L2.iteT ?_)
    | (with_reducible refine' L2.iteF ?_)
    | (with_reducible refine' GA.w_nt ?_)
    | (with_reducible refine' GA.w_nf ?_)
    | (with_reducible refine' GA.w_isN ?_)
    | (with_reducible refine' GA.w_notN ?_)
    | (with_reducible refine' GA.w_yes ?_)
    | (with_reducible refine' GA.w_lc ?_)
    | (with_reducible refine' GA.w_make ?_)
    | (with_reducible refine' GA.w_for ?_)
    | (with_reducible refine' GA.w_rng1 ?_)
    | (with_reducible refine' GA.w_rng2 ?_)
    | (with_reducible refine' GA.w_itup ?_)
    | (with_reducible refine' GA.w_ilist ?_)
    | (with_reducible refine' GA.w_ienum ?_)
    | (with_reducible refine' GA.w_BM ?_)
    | (with_reducible refine' GA.w_BM0 ?_)
    | (with_reducible refine' GA.w_izip ?_)
    | (with_reducible refine' GA.w_asg ?_))
  | `(tactic| walk_at "ws") => `(tactic| repeat (walk_at "w"))
  | `(tactic| walk_at "wn") => `(tactic| repeat (walk_at "wm"))


namespace Mine
section
variable {P : Program} {w : World} {K : PySem.W.Frag} {mg : Str → Option Value} {base : Heap} {a : Ads}

theorem tyx_tup {H : Hp} {p : Addr} {xs : List V} (h : SqT K H p xs) : TyX K H (.ref p) (.type "tuple") := by
  rcases h with (h | ⟨o, h⟩) | ⟨o, its, n, h1, h2, _⟩
  · exact .base (.tup h)
  · exact .fTuple h
  · exact .kTuple h1 h2
theorem r_isi {x : V} {t : Value} {n : String} {b : Bool} {H : Hp} {Q : VK} (ty : TyX K H x t) (e : PySem.W.kitOne K t (.type n) = some b) (q : Q (.bl b) H) : rIsi K [x, .ty n] H Q := ⟨x, .ty n, t, .type n, b, rfl, .ty n, ty, e, q⟩
theorem ki_ii : PySem.W.kitOne K (.type "int") (.type "int") = some true := kit_ty (by decide +kernel)
theorem ki_ib : PySem.W.kitOne K (.type "int") (.type "bool") = some false := kit_ty (by decide +kernel)
theorem ki_bb : PySem.W.kitOne K (.type "bool") (.type "bool") = some true := kit_ty (by decide +kernel)
theorem ki_tt : PySem.W.kitOne K (.type "tuple") (.type "tuple") = some true := kit_ty (by decide +kernel)
theorem ki_tb : PySem.W.kitOne K (.type "tuple") (.type "bool") = some false := kit_ty (by decide +kernel)
theorem ki_it : PySem.W.kitOne K (.type "int") (.type "tuple") = some false := kit_ty (by decide +kernel)
theorem ty_int {H : Hp} {i : Int} : TyX K H (.int i) (.type "int") := .base (.int i)
theorem ty_bl {H : Hp} {i : Bool} : TyX K H (.bl i) (.type "bool") := .base (.bl i)
def sp_is_integer : Sp := fun vs H Q _ => ∃ i : Int, vs = [.int i] ∧ Q (.bl true) H
theorem ok_is_integer (T : Txt K mg a) : FnOk P w K mg base CX0 1 a.f_is_integer a.d_is_integer P_is_integer sp_is_integer := by
  refine T.F_is_integer.ok sc_is_integer (fun vs H Q E h => by obtain ⟨i, rfl, _⟩ := h; rfl) (fun cdv A outer s H vs Q E hr h => ?_)
  obtain ⟨i, rfl, k⟩ := h
  refine ⟨_, (pss_one (ps_ret (pe_and (pe_callB call_isi (by rfl) T.n_isinstance (by decide +kernel) (pa_cons (pv 0) (pa_cons (pe_bltn (v := .ty "int") (u := .type "int") rfl T.n_int (by decide +kernel) rfl) pa_nil))) (pe_one (pe_not (pe_callB call_isi (by rfl) T.n_isinstance (by decide +kernel) (pa_cons (pv 0) (pa_cons (pe_bltn (v := .ty "bool") (u := .type "bool") rfl T.n_bool (by decide +kernel) rfl) pa_nil)))))))), ?_⟩
  walk_at "ws"
  refine r_isi ty_int ki_ii ?_
  walk_at "ws"
  refine r_isi ty_int ki_ib ?_
  walk_at "ws"
  exact k

def sp_is_between : Sp := fun vs H Q _ => ∃ lo hi i : Int, vs = [.int lo, .int hi, .int i] ∧ Q (.bl (decide (lo ≤ i) && decide (i ≤ hi))) H
theorem ok_is_between (T : Txt K mg a) : FnOk P w K mg base CX0 2 a.f_is_between a.d_is_between P_is_between sp_is_between := by
  refine T.F_is_between.ok sc_is_between (fun vs H Q E h => by obtain ⟨lo, hi, i, rfl, _⟩ := h; rfl) (fun cdv A outer s H vs Q E hr h => ?_)
  obtain ⟨lo, hi, i, rfl, k⟩ := h
  have G_is_integer : FnOk P w K mg base CX0 1 a.f_is_integer a.d_is_integer P_is_integer sp_is_integer := ok_is_integer T
  refine ⟨_, (pss_one (ps_ret (pe_and (pe_call (G_is_integer) (hr.mono (by omega)) rfl T.m_is_integer T.F_is_integer.kp T.b_is_integer .nil pass0 (pa_cons (pv 2) pa_nil)) (pe_one (pe_chain op_le op_le (pv 0) (pv 2) (pv 1)))))), ?_⟩
  walk_at "ws"
  refine ⟨_, rfl, ?_⟩
  walk_at "ws"
  refine w_ite (fun e => ?_) (fun e => ?_)
  · walk_at "ws"
    rw [e] at k
    exact k
  · rw [e] at k
    exact k

def sp_is_below : Sp := fun vs H Q _ => ∃ b i : Int, vs = [.int b, .int i] ∧ Q (.bl (decide (0 ≤ i) && decide (i < b))) H
theorem ok_is_below (T : Txt K mg a) : FnOk P w K mg base CX0 3 a.f_is_below a.d_is_below P_is_below sp_is_below := by
  refine T.F_is_below.ok sc_is_below (fun vs H Q E h => by obtain ⟨b, i, rfl, _⟩ := h; rfl) (fun cdv A outer s H vs Q E hr h => ?_)
  obtain ⟨b, i, rfl, k⟩ := h
  have G_is_between : FnOk P w K mg base CX0 2 a.f_is_between a.d_is_between P_is_between sp_is_between := ok_is_between T
  refine ⟨_, (pss_one (ps_ret (pe_call (G_is_between) (hr.mono (by omega)) rfl T.m_is_between T.F_is_between.kp T.b_is_between .nil pass0 (pa_cons pe_int (pa_cons (pe_op op_sub (pv 0) pe_int) (pa_cons (pv 1) pa_nil)))))), ?_⟩
  walk_at "ws"
  refine ⟨_, _, _, rfl, ?_⟩
  have e : decide (i ≤ b - 1) = decide (i < b) := by simp only [decide_eq_decide]; omega
  rw [e]
  exact k

def sp_is_tuple_of (K : PySem.W.Frag) : Sp := fun vs H Q _ => ∃ (lo hi : Int) (p : Addr) (xs : List V), vs = [.int lo, .int hi, .ref p] ∧ SqT K H p xs ∧ Q (.bl (decide (lo ≤ xs.length) && decide ((xs.length : Int) ≤ hi))) H
theorem ok_is_tuple_of (T : Txt K mg a) : FnOk P w K mg base CX0 1 a.f_is_tuple_of a.d_is_tuple_of P_is_tuple_of (sp_is_tuple_of K) := by
  refine T.F_is_tuple_of.ok sc_is_tuple_of (fun vs H Q E h => by obtain ⟨lo, hi, p, xs, rfl, _⟩ := h; rfl) (fun cdv A outer s H vs Q E hr h => ?_)
  obtain ⟨lo, hi, p, xs, rfl, hx, k⟩ := h
  refine ⟨_, (pss_one (ps_ret (pe_and (pe_callB call_isi (by rfl) T.n_isinstance (by decide +kernel) (pa_cons (pv 2) (pa_cons (pe_bltn (v := .ty "tuple") (u := .type "tuple") rfl T.n_tuple (by decide +kernel) rfl) pa_nil))) (pe_one (pe_chain op_le op_le (pv 0) (pe_callB call_len_seq (by rfl) T.n_len (by decide +kernel) (pa_cons (pv 2) pa_nil)) (pv 1)))))), ?_⟩
  walk_at "ws"
  refine r_isi (tyx_tup hx) ki_tt ?_
  walk_at "ws"
  refine ⟨_, _, rfl, .inr hx, ?_⟩
  walk_at "ws"
  refine w_ite (fun e => ?_) (fun e => ?_)
  · walk_at "ws"
    rw [e] at k
    exact k
  · rw [e] at k
    exact k

end
end Mine
/-! ## K2 -/


namespace Mine
section
variable {P : Program} {w : World} {K : PySem.W.Frag} {mg : Str → Option Value} {base : Heap} {a : Ads}

/-! ### are_below, is_unlike_pair -/
def inB (b : Int) (n : Int) : Bool := decide (0 ≤ n) && decide (n < b)
def sp_are_below (K : PySem.W.Frag) : Sp := fun vs H Q _ => ∃ (b : Int) (p : Addr) (ns : List Int), vs = [.int b, .ref p] ∧ SqT K H p (ns.map V.int) ∧ ns.length ≤ 100000 ∧ ∀ H', G none H H' → Q (.bl (ns.all (inB b))) H'
theorem ok_are_below (T : Txt K mg a) : FnOk P w K mg base CX0 4 a.f_are_below a.d_are_below P_are_below (sp_are_below K) := by
  refine T.F_are_below.ok sc_are_below (fun vs H Q E h => by obtain ⟨b, p, ns, rfl, _⟩ := h; rfl) (fun cdv A outer s H vs Q E hr h => ?_)
  obtain ⟨b, p, ns, rfl, hx, hz, k⟩ := h
  have G_is_below : FnOk P w K mg base CX0 3 a.f_is_below a.d_is_below P_is_below sp_is_below := ok_is_below T
  refine ⟨_, (pss_one (ps_ret (pe_callB (cr_all rfl) (by rfl) T.n_all (by decide +kernel) (pa_cons (pe_lc (own := [("thing", 2)]) (g := (gName 2)) (tt := tYes) rfl sc_are_below.nd (pi_tup (pv 1)) (blkOk_by (N := N_are_below) (sc := defScope s_are_below) (by decide +kernel)) (fun _ _ _ _ _ => (pg_name (i := 2) sc_are_below.nd rfl (by first | exact Or.inl rfl | exact Or.inr rfl))) (fun _ _ _ _ _ => pts_nil) (fun _ _ _ _ _ => (pe_call (G_is_below) (hr.mono (by omega)) rfl T.m_is_below T.F_is_below.kp T.b_is_below .nil pass0 (pa_cons (pv 0) (pa_cons (pv 2) pa_nil))))) pa_nil)))), ?_⟩
  walk_at "ws"
  refine i_tup hx ?_
  intro D hD
  refine lc_pure (K := K) (o := none) walk_tup (by rw [List.length_map]; exact hz) hD (fun _ e => nomatch e) (fun i => ns[i]?.map fun n => .bool (inB b n)) (fun H' g => sqT_t g.tups hx) ?_ ?_
  · rintro i x H1 H2 hi g ⟨rfl, hx1⟩ Qy Qn ky kn
    obtain ⟨n, hn, rfl⟩ : ∃ n, ns[i]? = some n ∧ V.int n = x := by
      rw [List.getElem?_map] at hx1; exact Option.map_eq_some_iff.mp hx1
    walk_at "ws"
    refine ⟨rfl, ?_⟩
    walk_at "ws"
    refine ⟨_, _, rfl, ky _ _ _ G.refl (.bl _) rfl (by rw [hn]; rfl)⟩
  · intro xs H' g hD' hds _
    rw [List.length_map, filterMap_range_map] at hds
    have e : xs = (ns.map (inB b)).map V.bl := by
      clear hD' g
      generalize ns = l at hds
      induction l generalizing xs with
      | nil => cases hds; rfl
      | cons n l ih =>
        cases hds with
        | cons h t => cases h; rw [ih _ t]; rfl
    subst e
    walk_at "ws"
    refine ⟨D, ns.map (inB b), rfl, SqL.of hD', ?_⟩
    have e : (ns.map (inB b)).all id = ns.all (inB b) := by rw [List.all_map]; rfl
    rw [e]
    exact k _ g

end
end Mine
/-! ## K3 -/


namespace Mine
section
variable {P : Program} {w : World} {K : PySem.W.Frag} {mg : Str → Option Value} {base : Heap} {a : Ads}

def sp_is_unlike_pair (K : PySem.W.Frag) : Sp := fun vs H Q _ => ∃ (b : Int) (p : Addr) (i j : Int), vs = [.int b, .ref p] ∧ SqT K H p [.int i, .int j] ∧ ∀ H', G none H H' → Q (.bl (inB b i && inB b j && !decide (i = j))) H'
theorem ok_is_unlike_pair (T : Txt K mg a) : FnOk P w K mg base CX0 5 a.f_is_unlike_pair a.d_is_unlike_pair P_is_unlike_pair (sp_is_unlike_pair K) := by
  refine T.F_is_unlike_pair.ok sc_is_unlike_pair (fun vs H Q E h => by obtain ⟨b, p, i, j, rfl, _⟩ := h; rfl) (fun cdv A outer s H vs Q E hr h => ?_)
  obtain ⟨b, p, i, j, rfl, hx, k⟩ := h
  have G_is_tuple_of : FnOk P w K mg base CX0 1 a.f_is_tuple_of a.d_is_tuple_of P_is_tuple_of (sp_is_tuple_of K) := ok_is_tuple_of T
  have G_are_below : FnOk P w K mg base CX0 4 a.f_are_below a.d_are_below P_are_below (sp_are_below K) := ok_are_below T
  refine ⟨_, (pss_one (ps_ret (pe_and (pe_call (G_is_tuple_of) (hr.mono (by omega)) rfl T.m_is_tuple_of T.F_is_tuple_of.kp T.b_is_tuple_of .nil pass0 (pa_cons pe_int (pa_cons pe_int (pa_cons (pv 1) pa_nil)))) (pe_and (pe_call (G_are_below) (hr.mono (by omega)) rfl T.m_are_below T.F_are_below.kp T.b_are_below .nil pass0 (pa_cons (pv 0) (pa_cons (pv 1) pa_nil))) (pe_one (pe_cmpR op_ne (pe_ix ix_tup (pv 1) pe_int (fun _ _ => rfl)) (pe_ix ix_tup (pv 1) pe_int (fun _ _ => rfl)) (nomark _))))))), ?_⟩
  walk_at "ws"
  refine ⟨_, _, _, _, rfl, hx, ?_⟩
  walk_at "ws"
  refine w_iteE rfl ?_
  walk_at "ws"
  refine ⟨b, p, [i, j], rfl, hx, (by show 2 ≤ 100000; decide), fun H1 g1 => ?_⟩
  have e1 : ([i, j] : List Int).all (inB b) = (inB b i && inB b j) := by simp
  rw [e1]
  walk_at "ws"
  refine w_ite (fun e => ?_) (fun e => ?_)
  · walk_at "ws"
    have hx1 := sqT_t g1.tups hx
    refine r_ixT hx1 (v := .int i) rfl ?_
    walk_at "ws"
    refine r_ixT hx1 (v := .int j) rfl ?_
    walk_at "ws"
    have k := k H1 g1
    rw [e] at k
    exact k
  · have k := k H1 g1
    rw [e] at k
    exact k

/-! ### webs -/
def ltP (u v : Int × Int) : Prop := u.1 < v.1 ∨ (u.1 = v.1 ∧ u.2 < v.2)
structure IsWeb (m : Int) (ws : List (Int × Int)) : Prop where
  lo : 1 ≤ m
  hi : m ≤ 7
  mem : ∀ u ∈ ws, (0 ≤ u.1 ∧ u.1 < m) ∧ (0 ≤ u.2 ∧ u.2 < m) ∧ u.1 ≠ u.2
  asc : ws.Pairwise ltP
def sp_first_wrong_wire (K : PySem.W.Frag) : Sp := fun vs H Q _ => ∃ (m : Int) (p : Addr) (ws : List (Int × Int)), vs = [.int m, .ref p] ∧ Dp K H (.ref p) (dW ws) ∧ IsWeb m ws ∧ ∀ H', G none H H' → Q .non H'
theorem le_pair {i j k l : Int} : Ob.lexAt (fun n => decide (([i, j] : List Int).getD n 0 = ([k, l] : List Int).getD n 0)) (fun n => decide (([i, j] : List Int).getD n 0 ≤ ([k, l] : List Int).getD n 0)) (decide (([i, j] : List Int).length ≤ ([k, l] : List Int).length)) 0 (min ([i, j] : List Int).length ([k, l] : List Int).length) = decide (i < k ∨ (i = k ∧ j ≤ l)) := by
  show (if decide (i = k) = true then (if decide (j = l) = true then true else decide (j ≤ l)) else decide (i ≤ k)) = _
  by_cases h1 : i = k
  · subst h1
    by_cases h2 : j = l
    · subst h2; simp
    · simp [h2]
  · have e : decide (i ≤ k) = decide (i < k) := by simp only [decide_eq_decide]; omega
    simp [h1, e]
theorem ok_first_wrong_wire (T : Txt K mg a) : FnOk P w K mg base CX0 6 a.f_first_wrong_wire a.d_first_wrong_wire P_first_wrong_wire (sp_first_wrong_wire K) := by
  refine T.F_first_wrong_wire.ok sc_first_wrong_wire (fun vs H Q E h => by obtain ⟨m, p, ws, rfl, _⟩ := h; rfl) (fun cdv A outer s H vs Q E hr h => ?_)
  obtain ⟨m, p, ws, rfl, hx, hw, k⟩ := h
  have G_is_unlike_pair : FnOk P w K mg base CX0 5 a.f_is_unlike_pair a.d_is_unlike_pair P_is_unlike_pair (sp_is_unlike_pair K) := ok_is_unlike_pair T
  obtain ⟨p', xs, ep, hxs, hds⟩ := dp_tup hx
  cases ep
  refine ⟨_, (pss_cons (ps_for PassesOwn.never rfl (pi_enumT (by rfl) T.n_enumerate (pa_cons (pv 1) pa_nil)) (pg_tup rfl (pgs_cons (pg_name (i := 2) sc_first_wrong_wire.nd rfl (Or.inl rfl)) (pgs_cons (pg_name (i := 3) sc_first_wrong_wire.nd rfl (Or.inl rfl)) pgs_nil)))
    (pss_cons (ps_if (pt_not (pt_val (pe_call (G_is_unlike_pair) (hr.mono (by omega)) rfl T.m_is_unlike_pair T.F_is_unlike_pair.kp T.b_is_unlike_pair .nil pass0 (pa_cons (pv 0) (pa_cons (pv 3) pa_nil)))))
    (pss_one (ps_ret (pv 2)))
    pss_nil)
  (pss_one (ps_if (L2.PW.pt (pw_and (pt_cmpR op_gt (pv 2) pe_int (nomark _)) (pw_and1 (pt_cmpR (op_leT hr.units0) (pv 3) (pe_ix ix_tup (pv 1) (pe_op op_sub (pv 2) pe_int) (fun _ _ => rfl)) (nomark _)))))
    (pss_one (ps_ret (pv 2)))
    pss_nil))))
  (pss_one (ps_ret pe_non))), ?_⟩
  walk_at "ws"
  refine i_enum hxs ?_
  refine for_it (walk_enumT (xs := xs)) (fun i σ H1 => G none H H1 ∧ ∃ u v, σ = [some (.int m), some (.ref p), u, v]) ⟨G.refl, _, _, rfl⟩ (fun i σ H1 _ h => sqT_t h.1.tups hxs) ?_ ?_
  · rintro i x σ H1 H2 hi ⟨g1, u, v, rfl⟩ ⟨t, y, z, rfl, ht, rfl, ey, ez⟩
    cases Option.some.inj ey
    have g2 : G none H1 (upd H1 t (.tup [.int (i : Nat), z])) := G.alloc ht
    refine ⟨t, _, rfl, SqT.of upd_same, rfl, ?_⟩
    refine ⟨_, _, rfl, ?_⟩
    walk_at "ws"
    refine ⟨_, _, rfl, ?_⟩
    walk_at "ws"
    refine ⟨rfl, ?_⟩
    generalize upd H1 t (.tup [.int (i : Nat), z]) = H2 at g2 ⊢
    have g02 := g1.trans g2
    obtain ⟨d, hd, hz⟩ := DpAll.get hds ez
    rw [List.getElem?_map] at hd
    obtain ⟨w0, hw0, rfl⟩ := Option.map_eq_some_iff.mp hd
    obtain ⟨q, rfl, hq⟩ := dp_dP hz
    have hm := hw.mem w0 (List.mem_of_getElem? hw0)
    walk_at "ws"
    refine ⟨m, q, w0.1, w0.2, rfl, sqT_t g02.tups hq, fun H3 g3 => ?_⟩
    have g03 := g02.trans g3
    have e1 : (inB m w0.1 && inB m w0.2 && !decide (w0.1 = w0.2)) = true := by
      simp only [inB, Bool.and_eq_true, decide_eq_true_eq, Bool.not_eq_true', decide_eq_false_iff_not]
      omega
    rw [e1]
    walk_at "ws"
    refine w_ite (fun e => ?_) (fun e => ?_)
    · walk_at "ws"
      have hi0 : 0 < i := by simpa using e
      obtain ⟨v1, hv1⟩ : ∃ v1, xs[i - 1]? = some v1 := ⟨_, List.getElem?_eq_getElem (show i - 1 < xs.length by omega)⟩
      obtain ⟨d1, hd1, hz1⟩ := DpAll.get hds hv1
      rw [List.getElem?_map] at hd1
      obtain ⟨w1, hw1, rfl⟩ := Option.map_eq_some_iff.mp hd1
      obtain ⟨q1, rfl, hq1⟩ := dp_dP hz1
      have ei : ((i : Nat) : Int) - 1 = ((i - 1 : Nat) : Int) := by omega
      rw [ei]
      refine r_ixT (sqT_t g03.tups hxs) (atI_nat hv1) ?_
      refine ⟨q, q1, [w0.1, w0.2], [w1.1, w1.2], rfl, rfl, sqT_t g03.tups hq, sqT_t g03.tups hq1, ?_⟩
      rw [le_pair]
      walk_at "ws"
      have hlt : ltP w1 w0 := by
        obtain ⟨l1, e1⟩ := List.getElem?_eq_some_iff.mp hw1
        obtain ⟨l0, e0⟩ := List.getElem?_eq_some_iff.mp hw0
        have := List.pairwise_iff_getElem.mp hw.asc (i - 1) i l1 l0 (by omega)
        rw [e1, e0] at this
        exact this
      have e2 : decide (w0.1 < w1.1 ∨ w0.1 = w1.1 ∧ w0.2 ≤ w1.2) = false := by
        rw [decide_eq_false_iff_not]
        unfold ltP at hlt
        omega
      rw [e2]
      walk_at "ws"
      exact ⟨g03, _, _, rfl⟩
    · walk_at "ws"
      exact ⟨g03, _, _, rfl⟩
  · rintro σ H1 ⟨g1, u, v, rfl⟩
    walk_at "ws"
    exact k _ g1

end
end Mine
/-! ## K4 -/


namespace Mine
section
variable {P : Program} {w : World} {K : PySem.W.Frag} {mg : Str → Option Value} {base : Heap} {a : Ads}

/-! ### a web as an instance -/
theorem mw_ : ¬ (("machines" : Str) = "wires") := by decide +kernel
theorem wm_ : ¬ (("wires" : Str) = "machines") := by decide +kernel
def wf (m wa : V) : List (Str × V) := [("machines", m), ("wires", wa)]
theorem wf_m (m wa : V) : (wf m wa).lookup ("machines" : Str) = some m := by simp [wf, List.lookup]
theorem wf_w (m wa : V) : (wf m wa).lookup ("wires" : Str) = some wa := by
  have e : (("wires" : Str) == "machines") = false := by simpa using wm_
  simp [wf, List.lookup, e]
theorem put0 (m : V) : putF "machines" m [] = [(("machines" : Str), m)] := rfl
theorem put1 (m wa : V) : putF "wires" wa [(("machines" : Str), m)] = wf m wa := by
  show (if ("machines" : Str) = "wires" then _ else (("machines" : Str), m) :: putF "wires" wa []) = _
  rw [if_neg mw_]; rfl
theorem put_m (m n wa : V) : putF "machines" n (wf m wa) = wf n wa := by
  show (if ("machines" : Str) = "machines" then (("machines" : Str), n) :: [(("wires" : Str), wa)] else _) = _
  rw [if_pos rfl]; rfl
theorem put_w (m wa wb : V) : putF "wires" wb (wf m wa) = wf m wb := by
  show (if ("machines" : Str) = "wires" then _ else (("machines" : Str), m) :: (if ("wires" : Str) = "wires" then (("wires" : Str), wb) :: [] else _)) = _
  rw [if_neg mw_, if_pos rfl]; rfl
/-- a web stands at x -/
def WebAt (K : PySem.W.Frag) (C : Addr) (H : Hp) (x : Addr) (m : Int) (ws : List (Int × Int)) : Prop := ∃ (dx wa : Addr), H x = some (.ins C dx (wf (.int m) (.ref wa))) ∧ Dp K H (.ref wa) (dW ws)
theorem WebAt.g {C x hd c : Addr} {m : Int} {ws : List (Int × Int)} {H H' : Hp} (h : WebAt K C H x m ws) (g : G (some (hd, c)) H H') (hh : Hand H hd c) : WebAt K C H' x m ws := by
  obtain ⟨dx, wa, h1, h2⟩ := h
  exact ⟨dx, wa, g.keep x _ (off_ins hh h1) h1, dp_t g.tups _ _ (nl_dW ws) h2⟩
theorem WebAt.n {C x : Addr} {m : Int} {ws : List (Int × Int)} {H H' : Hp} (h : WebAt K C H x m ws) (g : G none H H') : WebAt K C H' x m ws := by
  obtain ⟨dx, wa, h1, h2⟩ := h
  exact ⟨dx, wa, g.all x _ h1, dp_t g.tups _ _ (nl_dW ws) h2⟩
theorem r_fld {o : Addr} {C dx : Addr} {fs : List (Str × V)} {v : V} {f : Str} {H : Hp} {F : V → Prop} (e : H o = some (.ins C dx fs)) (c : Cls K C) (n : NoAttr K C f) (l : fs.lookup f = some v) (q : F v) :
    ∃ a C dx fs v, V.ref o = .ref a ∧ H a = some (.ins C dx fs) ∧ Cls K C ∧ NoAttr K C f ∧ fs.lookup f = some v ∧ F v := ⟨o, C, dx, fs, v, rfl, e, c, n, l, q⟩
theorem r_sfld {o : Addr} {C dx : Addr} {fs : List (Str × V)} {F : Hp → Prop} {f : Str} {y : V} {H : Hp} (e : H o = some (.ins C dx fs)) (c : Cls K C) (n : NoAttr K C f) (l : fs.length < 1000) (q : F (upd H o (.ins C dx (putF f y fs)))) :
    ∃ a C dx fs, V.ref o = .ref a ∧ H a = some (.ins C dx fs) ∧ Cls K C ∧ NoAttr K C f ∧ fs.length < 1000 ∧ F (upd H a (.ins C dx (putF f y fs))) := ⟨o, C, dx, fs, rfl, e, c, n, l, q⟩
/-- an instance of H1 changed: what else stands stands -/
theorem ts_updI {H : Hp} {x C dx : Addr} {fs : List (Str × V)} {u : HO} (h : H x = some (.ins C dx fs)) : Ts H (upd H x u) := fun a xs e => by
  rcases e with e | ⟨ob, e⟩
  · exact .inl (by rw [upd_ne (ne_of e h (by intro z; cases z))]; exact e)
  · exact .inr ⟨ob, by rw [upd_ne (ne_of e h (by intro z; cases z))]; exact e⟩
def sp_Web_init (K : PySem.W.Frag) (C : Addr) : Sp := fun vs H Q _ => ∃ (x dx : Addr) (m : Int) (p : Addr) (ws : List (Int × Int)), vs = [.ref x, .int m, .ref p] ∧ H x = some (.ins C dx []) ∧ Dp K H (.ref p) (dW ws) ∧ IsWeb m ws ∧
  ∀ H', (∀ b u, b ≠ x → H b = some u → H' b = some u) → Ts H H' → H' x = some (.ins C dx (wf (.int m) (.ref p))) → Q .non H'
theorem ok_Web_init (T : Txt K mg a) : FnOk P w K mg base CX0 7 a.f_Web_init a.d_Web_init P_Web_init (sp_Web_init K a.c_Web) := by
  refine T.F_Web_init.ok sc_Web_init (fun vs H Q E h => by obtain ⟨x, dx, m, p, ws, rfl, _⟩ := h; rfl) (fun cdv A outer s H vs Q E hr h => ?_)
  obtain ⟨x, dx, m, p, ws, rfl, hxi, hx, hw, k⟩ := h
  have G_is_between : FnOk P w K mg base CX0 2 a.f_is_between a.d_is_between P_is_between sp_is_between := ok_is_between T
  have G_first_wrong_wire : FnOk P w K mg base CX0 6 a.f_first_wrong_wire a.d_first_wrong_wire P_first_wrong_wire (sp_first_wrong_wire K) := ok_first_wrong_wire T
  obtain ⟨p', xs, ep, hxs, hds⟩ := dp_tup hx
  cases ep
  refine ⟨_, (pss_cons (ps_if (pt_not (pt_val (pe_call (G_is_between) (hr.mono (by omega)) rfl T.m_is_between T.F_is_between.kp T.b_is_between .nil pass0 (pa_cons pe_int (pa_cons (pe_glob (v := .int 7) rfl T.m_MOST_MACHINES ⟨_, rfl⟩) (pa_cons (pv 1) pa_nil))))))
    pss_never
    pss_nil)
  (pss_cons (ps_if (pt_not (pt_val (pe_callB call_isi (by rfl) T.n_isinstance (by decide +kernel) (pa_cons (pv 2) (pa_cons (pe_bltn (v := .ty "tuple") (u := .type "tuple") rfl T.n_tuple (by decide +kernel) rfl) pa_nil)))))
    pss_never
    pss_nil)
  (pss_cons (ps_set (i := 3) sc_Web_init.nd rfl (Or.inl rfl) (pe_call (G_first_wrong_wire) (hr.mono (by omega)) rfl T.m_first_wrong_wire T.F_first_wrong_wire.kp T.b_first_wrong_wire .nil pass0 (pa_cons (pv 1) (pa_cons (pv 2) pa_nil))))
  (pss_cons (ps_if (pt_cmp (pc_notN (pv 3)))
    pss_never
    pss_nil)
  (pss_cons (ps_fld (pv 0) (pv 1) rfl)
  (pss_one (ps_fld (pv 0) (pv 2) rfl))))))), ?_⟩
  walk_at "ws"
  refine ⟨_, _, _, rfl, ?_⟩
  have e1 : (decide ((1 : Int) ≤ m) && decide (m ≤ 7)) = true := by
    have := hw.lo
    have := hw.hi
    simp; omega
  rw [e1]
  walk_at "ws"
  refine r_isi (tyx_tup hxs) ki_tt ?_
  walk_at "ws"
  refine ⟨m, p, ws, rfl, hx, hw, fun H1 g1 => ?_⟩
  walk_at "ws"
  refine w_iteN (by decide) ?_
  walk_at "ws"
  have h1 := g1.all _ _ hxi
  refine r_sfld h1 T.cl_Web T.na_Web_machines (by show 0 < 1000; decide) ?_
  walk_at "ws"
  refine r_sfld upd_same T.cl_Web T.na_Web_wires (by rw [put0]; show 1 < 1000; decide) ?_
  rw [put0, put1]
  refine k _ (fun b u n e => ?_) ?_ upd_same
  · rw [upd_ne n, upd_ne n]; exact g1.all _ _ e
  · exact (g1.tups.trans (ts_updI h1)).trans (ts_updI upd_same)

end
end Mine
/-! ## K5 -/


namespace Mine
section
variable {P : Program} {w : World} {K : PySem.W.Frag} {mg : Str → Option Value} {base : Heap} {a : Ads}

/-! ### the hand of draws -/
def sp__law_hand (K : PySem.W.Frag) : Sp := fun vs H Q _ => ∃ (s : Addr) (ns : List Int), vs = [.ref s] ∧ SqL K H s (ns.map V.int) ∧ ns.length ≤ 63 ∧ ∀ hd c H', G none H H' → Hand H' hd c → Q (.ref hd) H'
theorem ok__law_hand (T : Txt K mg a) : FnOk P w K mg base CX0 1 a.f__law_hand a.d__law_hand P__law_hand (sp__law_hand K) := by
  refine T.F__law_hand.ok sc__law_hand (fun vs H Q E h => by obtain ⟨s, ns, rfl, _⟩ := h; rfl) (fun cdv A outer s0 H vs Q E hr h => ?_)
  obtain ⟨s, ns, rfl, hs, hl, k⟩ := h
  refine ⟨_, (pss_cons (ps_setLc (i := 1) (own := [("_law_cell", 2)]) (g := (gName 2)) (tt := tYes)  rfl sc__law_hand.nd rfl rfl (sw_true rfl rfl rfl (by decide +kernel)) (pi_list (pe_slice sl_list (pv 0) po_none (po_some pe_int))) (blkOk_by (N := N__law_hand) (sc := defScope s__law_hand) (by decide +kernel)) (fun _ _ _ _ _ => (pg_name (i := 2) sc__law_hand.nd rfl (by first | exact Or.inl rfl | exact Or.inr rfl))) (fun _ _ _ _ _ => pts_nil) (fun _ _ _ _ _ => (pe_callB call_abs (by rfl) T.n_abs (by decide +kernel) (pa_cons (pe_callTy call_int1 (by rfl) T.n_int (by decide +kernel) (pa_cons (pv 2) pa_nil)) pa_nil))))
  (pss_one (ps_ret (pe_lstN (pa_cons (pv 1) (pa_cons pe_int (pa_cons pe_int (pa_cons (pe_op op_add pe_int (pe_callB call_len_seq (by rfl) T.n_len (by decide +kernel) (pa_cons (pv 1) pa_nil))) (pa_cons pe_int pa_nil))))))))), ?_⟩
  walk_at "ws"
  refine ⟨s, _, rfl, hs, fun p hp => ?_⟩
  obtain ⟨ms, hms⟩ : ∃ ms : List Int, cutV (ns.map V.int) none (some 63) = ms.map V.int := ints_of fun v hv => by
    obtain ⟨n, _, e⟩ := List.mem_map.mp (mem_cutV hv)
    exact ⟨n, e.symm⟩
  have hz : ms.length ≤ 63 := by
    have e := cutV_length (ns.map V.int) none (some 63)
    rw [hms, List.length_map, List.length_map] at e
    omega
  rw [hms]
  have g1 : G none H (upd H p (.lst (ms.map V.int))) := G.alloc hp
  have h1 : upd H p (.lst (ms.map V.int)) p = some (.lst (ms.map V.int)) := upd_same
  generalize upd H p (.lst (ms.map V.int)) = H1 at g1 h1 ⊢
  walk_at "ws"
  refine i_list (SqL.of h1) ?_
  intro D hD
  refine lc_pure (K := K) (o := none) walk_list (by rw [List.length_map]; omega) hD (fun _ e => nomatch e) (fun i => ms[i]?.map fun n => .int (if n < 0 then -n else n)) (fun H' g => SqL.of (g.all _ _ h1)) ?_ ?_
  · rintro i x H2 H3 hi g ⟨rfl, hx1⟩ Qy Qn ky kn
    obtain ⟨n, hn, rfl⟩ : ∃ n, ms[i]? = some n ∧ V.int n = x := by
      rw [List.getElem?_map] at hx1; exact Option.map_eq_some_iff.mp hx1
    walk_at "ws"
    refine ⟨rfl, ?_⟩
    walk_at "ws"
    refine .inl ⟨_, rfl, ?_⟩
    walk_at "ws"
    exact ⟨_, rfl, ky _ _ _ G.refl (.int _) rfl (by rw [hn]; rfl)⟩
  · intro xs H' g hD' hds _
    rw [List.length_map, filterMap_range_map] at hds
    obtain ⟨cs, rfl⟩ : ∃ cs : List Int, xs = cs.map V.int := ⟨_, DpAll.of_ints (ns := ms.map fun n => if n < 0 then -n else n) (by rw [List.map_map]; exact hds)⟩
    have g2 := g1.trans g
    walk_at "ws"
    refine ⟨D, _, rfl, .inl (SqL.of hD'), ?_⟩
    walk_at "ws"
    refine ⟨sz (by simp), fun q H3 hq g3 h3 => ?_⟩
    exact k q D _ (g2.trans (g3 none)) ⟨ne_of_none hD' hq, ⟨cs, (g3 none).all _ _ hD'⟩, _, _, _, _, h3, Int.le_refl _⟩

def sp__law_draw : Sp := fun vs H Q _ => ∃ (hd c : Addr) (n : Int), vs = [.ref hd, .int n] ∧ Hand H hd c ∧ 0 < n ∧ n ≤ 100000 ∧ ∀ r H', 0 ≤ r → r < n → G (some (hd, c)) H H' → Hand H' hd c → Q (.int r) H'
theorem st5 {x0 x1 x2 x3 x4 v : V} {j : Nat} {hd : Addr} {z : Int} {H : Hp} {F : Hp → Prop} (h : H hd = some (.lst [x0, x1, x2, x3, x4])) (e : ixN 5 z = some j) (q : F (upd H hd (.lst (([x0, x1, x2, x3, x4] : List V).set j v)))) : rSetL (.ref hd) (.int z) v H F := ⟨hd, _, z, j, rfl, rfl, h, e, q⟩
theorem ok__law_draw (T : Txt K mg a) : FnOk P w K mg base CX0 1 a.f__law_draw a.d__law_draw P__law_draw sp__law_draw := by
  refine T.F__law_draw.ok sc__law_draw (fun vs H Q E h => by obtain ⟨hd, c, n, rfl, _⟩ := h; rfl) (fun cdv A outer s0 H vs Q E hr h => ?_)
  obtain ⟨hd, c, n, rfl, hh, n0, n1, k⟩ := h
  have hh' := hh
  obtain ⟨nc, ⟨ns, hc⟩, i, b, m, z, h, hi⟩ := hh'
  refine ⟨_, (pss_cons (ps_if (L2.PW.pt (pw_and (pt_cmpR op_eq (pe_ix ix_list (pv 0) pe_int (fun _ _ => rfl)) pe_int (nomark _)) (pw_and1 (pt_cmpR op_lt (pe_ix ix_list (pv 0) pe_int (fun _ _ => rfl)) (pe_callB call_len_seq (by rfl) T.n_len (by decide +kernel) (pa_cons (pe_ix ix_list (pv 0) pe_int (fun _ _ => rfl)) pa_nil)) (nomark _)))))
    (pss_cons (ps_set (i := 2) sc__law_draw.nd rfl (Or.inl rfl) (pe_ix ix_list (pe_ix ix_list (pv 0) pe_int (fun _ _ => rfl)) (pe_ix ix_list (pv 0) pe_int (fun _ _ => rfl)) (fun _ _ => rfl)))
  (pss_cons (ps_asg (pe_op op_add (pe_ix ix_list (pv 0) pe_int (fun _ _ => rfl)) pe_int) (pg_sub (pv 0) pe_int set_list))
  (pss_cons (ps_asg (pe_op op_mod (pe_callTy call_int1 (by rfl) T.n_int (by decide +kernel) (pa_cons (pe_op op_add (pe_op op_add (pe_op op_mul (pe_ix ix_list (pv 0) pe_int (fun _ _ => rfl)) pe_int) (pv 2)) pe_int) pa_nil)) pe_int) (pg_sub (pv 0) pe_int set_list))
  (pss_one (ps_if (pt_cmpR op_ge (pv 2) (pe_op op_pow pe_int pe_int) (nomark _))
    (pss_one (ps_asg (pv 2) (pg_sub (pv 0) pe_int set_list)))
    pss_nil)))))
    pss_nil)
  (pss_cons (ps_if (pt_cmpR op_gt (pe_ix ix_list (pv 0) pe_int (fun _ _ => rfl)) pe_int (nomark _))
    (pss_cons (ps_set (i := 3) sc__law_draw.nd rfl (Or.inl rfl) (pe_op op_mod (pe_callTy call_int1 (by rfl) T.n_int (by decide +kernel) (pa_cons (pe_ix ix_list (pv 0) pe_int (fun _ _ => rfl)) pa_nil)) (pv 1)))
  (pss_cons (ps_asg (pe_op op_fdiv (pe_ix ix_list (pv 0) pe_int (fun _ _ => rfl)) (pv 1)) (pg_sub (pv 0) pe_int set_list))
  (pss_one (ps_ret (pv 3)))))
    pss_nil)
  (pss_cons (ps_asg (pe_op op_add (pe_ix ix_list (pv 0) pe_int (fun _ _ => rfl)) pe_int) (pg_sub (pv 0) pe_int set_list))
  (pss_cons (ps_set (i := 4) sc__law_draw.nd rfl (Or.inl rfl) (pe_op op_mod (pe_callTy call_int1 (by rfl) T.n_int (by decide +kernel) (pa_cons (pe_op op_mul (pe_callTy call_int1 (by rfl) T.n_int (by decide +kernel) (pa_cons (pe_op op_add (pe_ix ix_list (pv 0) pe_int (fun _ _ => rfl)) (pe_op op_mul pe_int (pe_ix ix_list (pv 0) pe_int (fun _ _ => rfl)))) pa_nil)) pe_int) pa_nil)) pe_int))
  (pss_cons (ps_set (i := 4) sc__law_draw.nd rfl (Or.inl rfl) (pe_op op_mod (pe_callTy call_int1 (by rfl) T.n_int (by decide +kernel) (pa_cons (pe_op op_mul (pv 4) (pe_op op_add (pe_op op_fdiv (pv 4) pe_int) pe_int)) pa_nil)) pe_int))
  (pss_cons (ps_set (i := 4) sc__law_draw.nd rfl (Or.inl rfl) (pe_op op_mod (pe_callTy call_int1 (by rfl) T.n_int (by decide +kernel) (pa_cons (pe_op op_mul (pv 4) (pe_op op_add (pe_op op_fdiv (pv 4) pe_int) pe_int)) pa_nil)) pe_int))
  (pss_one (ps_ret (pe_op op_mod (pe_callTy call_int1 (by rfl) T.n_int (by decide +kernel) (pa_cons (pe_op op_fdiv (pv 4) pe_int) pa_nil)) (pv 1)))))))))), ?_⟩
  refine w_seqM (fun σ H1 => ∃ (i b m z : Int) (x : Option V), σ = [some (.ref hd), some (.int n), x, none, none] ∧ (∀ a, a ≠ hd → H1 a = H a) ∧ H1 hd = some (.lst [.ref c, .int i, .int b, .int m, .int z]) ∧ 0 ≤ i) (fun N kN => ?_) ?_
  · walk_at "ws"
    refine r_ixL (SqL.of h) (v := .int b) rfl ?_
    walk_at "ws"
    refine w_ite (fun e => ?_) (fun e => ?_)
    · walk_at "ws"
      refine r_ixL (SqL.of h) (v := .int i) rfl ?_
      walk_at "ws"
      refine r_ixL (SqL.of h) (v := .ref c) rfl ?_
      walk_at "ws"
      refine ⟨c, _, rfl, .inl (SqL.of hc), ?_⟩
      walk_at "ws"
      refine w_ite (fun e => ?_) (fun e => ?_)
      · have hlt : i < ns.length := by
          have := of_decide_eq_true e
          rw [List.length_map] at this
          exact this
        obtain ⟨cell, hcell⟩ : ∃ cell, ns[i.toNat]? = some cell := ⟨_, List.getElem?_eq_getElem (by omega)⟩
        walk_at "ws"
        refine r_ixL (SqL.of h) (v := .ref c) rfl ?_
        walk_at "ws"
        refine r_ixL (SqL.of h) (v := .int i) rfl ?_
        refine r_ixL (SqL.of hc) (v := .int cell) (at_of (j := i.toNat) (by omega) (by rw [List.getElem?_map, hcell]; rfl)) ?_
        walk_at "ws"
        refine r_ixL (SqL.of h) (v := .int i) rfl ?_
        walk_at "ws"
        refine st5 (j := 1) h rfl ?_
        walk_at "ws"
        refine r_ixL (SqL.of upd_same) (v := .int m) rfl ?_
        walk_at "ws"
        refine r_I (.inr ⟨by decide, by decide⟩) ?_
        walk_at "ws"
        refine .inl ⟨_, rfl, ?_⟩
        walk_at "ws"
        refine r_I (by decide) ?_
        walk_at "ws"
        refine st5 (j := 3) upd_same rfl ?_
        walk_at "ws"
        refine r_I ⟨by decide, by decide, by decide⟩ ?_
        walk_at "ws"
        refine w_ite (fun e => ?_) (fun e => ?_)
        · walk_at "ws"
          refine st5 (j := 2) upd_same rfl ?_
          refine kN _ _ ⟨_, _, _, _, _, rfl, fun a na => ?_, upd_same, by omega⟩
          rw [upd_ne na, upd_ne na, upd_ne na]
        · walk_at "ws"
          refine kN _ _ ⟨_, _, _, _, _, rfl, fun a na => ?_, upd_same, by omega⟩
          rw [upd_ne na, upd_ne na]
      · walk_at "ws"
        exact kN _ _ ⟨i, b, m, z, none, rfl, fun _ _ => rfl, h, hi⟩
    · walk_at "ws"
      exact kN _ _ ⟨i, b, m, z, none, rfl, fun _ _ => rfl, h, hi⟩
  · clear h hi
    rintro σ H1 ⟨i, b, m, z, x, rfl, hE, h, hi⟩
    walk_at "ws"
    refine r_ixL (SqL.of h) (v := .int b) rfl ?_
    walk_at "ws"
    refine w_ite (fun e => ?_) (fun e => ?_)
    · walk_at "ws"
      refine r_ixL (SqL.of h) (v := .int b) rfl ?_
      walk_at "ws"
      refine .inl ⟨_, rfl, ?_⟩
      walk_at "ws"
      refine r_I n0 ?_
      walk_at "ws"
      refine r_ixL (SqL.of h) (v := .int b) rfl ?_
      walk_at "ws"
      refine r_I ⟨n0, by omega⟩ ?_
      walk_at "ws"
      refine st5 (j := 2) h rfl ?_
      walk_at "ws"
      obtain ⟨g, hh2⟩ := G.at_hd hh (H' := upd H1 hd (.lst (([.ref c, .int i, .int b, .int m, .int z] : List V).set 2 (.int (b / n))))) (fun a na => by rw [upd_ne na]; exact hE a na) upd_same hi
      exact k _ _ (Int.emod_nonneg _ (by omega)) (Int.emod_lt_of_pos _ n0) g hh2
    · walk_at "ws"
      refine r_ixL (SqL.of h) (v := .int z) rfl ?_
      walk_at "ws"
      refine st5 (j := 4) h rfl ?_
      walk_at "ws"
      refine r_ixL (SqL.of upd_same) (v := .int m) rfl ?_
      walk_at "ws"
      refine r_ixL (SqL.of upd_same) (v := .int (z + 1)) rfl ?_
      refine r_I (.inl ⟨by decide, by decide⟩) ?_
      walk_at "ws"
      refine .inl ⟨_, rfl, ?_⟩
      walk_at "ws"
      refine r_I (.inr ⟨by decide, by decide⟩) ?_
      walk_at "ws"
      refine .inl ⟨_, rfl, ?_⟩
      walk_at "ws"
      refine r_I (by decide) ?_
      generalize e1 : (_ : Int) % 2147483647 = u1
      have b1 : 0 ≤ u1 ∧ u1 < 2147483647 := by omega
      walk_at "ws"
      refine r_I ⟨by decide, by decide⟩ ?_
      walk_at "ws"
      refine r_I (.inl ⟨by omega, by omega⟩) ?_
      walk_at "ws"
      refine .inl ⟨_, rfl, ?_⟩
      walk_at "ws"
      refine r_I (by decide) ?_
      generalize e2 : (_ : Int) % 2147483647 = u2
      have b2 : 0 ≤ u2 ∧ u2 < 2147483647 := by omega
      walk_at "ws"
      refine r_I ⟨by decide, by decide⟩ ?_
      walk_at "ws"
      refine r_I (.inl ⟨by omega, by omega⟩) ?_
      walk_at "ws"
      refine .inl ⟨_, rfl, ?_⟩
      walk_at "ws"
      refine r_I (by decide) ?_
      walk_at "ws"
      refine r_I ⟨by decide, by decide⟩ ?_
      walk_at "ws"
      refine .inl ⟨_, rfl, ?_⟩
      walk_at "ws"
      refine r_I n0 ?_
      obtain ⟨g, hh2⟩ := G.at_hd hh (H' := upd H1 hd (.lst (([.ref c, .int i, .int b, .int m, .int z] : List V).set 4 (.int (z + 1))))) (fun a na => by rw [upd_ne na]; exact hE a na) upd_same hi
      exact k _ _ (Int.emod_nonneg _ (by omega)) (Int.emod_lt_of_pos _ n0) g hh2

end
end Mine
/-! ## K6 -/


namespace Mine
section
variable {P : Program} {w : World} {K : PySem.W.Frag} {mg : Str → Option Value} {base : Heap} {a : Ads}

/-! ### _law_is of two that are alike -/
theorem dp_n {H H' : Hp} (g : G none H H') : (∀ (d : PyData) (v : V), Dp K H v d → Dp K H' v d) ∧ (∀ (ds : List PyData) (vs : List V), DpAll K H vs ds → DpAll K H' vs ds) := by
  have rd : ∀ {a u}, Rd H a u → Rd H' a u := fun h => h.elim (fun h => .inl (g.all _ _ h)) fun ⟨ob, h⟩ => .inr ⟨ob, g.all _ _ h⟩
  have sl : ∀ {a xs}, SqL K H a xs → SqL K H' a xs := fun h => h.elim (fun h => .inl (rd h)) .inr
  constructor
  · intro d v h
    refine Dp.rec (motive_1 := fun v d _ => Dp K H' v d) (motive_2 := fun vs ds _ => DpAll K H' vs ds) .non .bl .int .str ?_ ?_ ?_ ?_ h
    · intro a xs ds h1 _ h2; exact .lst (sl h1) h2
    · intro a xs ds h1 _ h2; exact .tup (sqT_t g.tups h1) h2
    · exact .nil
    · intro v vs d ds _ _ h1 h2; exact .cons h1 h2
  · intro ds vs h
    refine DpAll.rec (motive_1 := fun v d _ => Dp K H' v d) (motive_2 := fun vs ds _ => DpAll K H' vs ds) .non .bl .int .str ?_ ?_ ?_ ?_ h
    · intro a xs ds h1 _ h2; exact .lst (sl h1) h2
    · intro a xs ds h1 _ h2; exact .tup (sqT_t g.tups h1) h2
    · exact .nil
    · intro v vs d ds _ _ h1 h2; exact .cons h1 h2
theorem sqL_n {H H' : Hp} (g : G none H H') {p : Addr} {xs : List V} (h : SqL K H p xs) : SqL K H' p xs := by
  rcases h with (h | ⟨o, h⟩) | h
  · exact .inl (.inl (g.all _ _ h))
  · exact .inl (.inr ⟨o, g.all _ _ h⟩)
  · exact .inr h
theorem tyx_lst {H : Hp} {p : Addr} {xs : List V} (h : SqL K H p xs) : TyX K H (.ref p) (.type "list") := by
  rcases h with (h | ⟨o, h⟩) | ⟨o, its, n, h1, h2, _⟩
  · exact .base (.lst h)
  · exact .base (.frz h)
  · exact .kList h1 h2
def tyN : PyData → String
  | .none => "NoneType"
  | .bool _ => "bool"
  | .int _ => "int"
  | .str _ => "str"
  | .list _ => "list"
  | .tuple _ => "tuple"
  | .dict _ => "dict"
theorem ty_of {H : Hp} {v : V} {d : PyData} (h : Dp K H v d) : TyX K H v (.type (tyN d)) := by
  cases h with
  | non => exact .base .non
  | bl b => exact .base (.bl b)
  | int i => exact .base (.int i)
  | str x => exact .base (.str x)
  | lst h _ => exact tyx_lst h
  | tup h _ => exact tyx_tup h
def isTup : PyData → Bool | .tuple _ => true | _ => false
def isLst : PyData → Bool | .list _ => true | _ => false
def isBool : PyData → Bool | .bool _ => true | _ => false
theorem ki_tup (d : PyData) : PySem.W.kitOne K (.type (tyN d)) (.type "tuple") = some (isTup d) := by
  cases d with
  | none => exact kit_ty (a := "NoneType") (b := "tuple") (r := false) (by decide +kernel)
  | bool _ => exact kit_ty (a := "bool") (b := "tuple") (r := false) (by decide +kernel)
  | int _ => exact kit_ty (a := "int") (b := "tuple") (r := false) (by decide +kernel)
  | str _ => exact kit_ty (a := "str") (b := "tuple") (r := false) (by decide +kernel)
  | list _ => exact kit_ty (a := "list") (b := "tuple") (r := false) (by decide +kernel)
  | tuple _ => exact kit_ty (a := "tuple") (b := "tuple") (r := true) (by decide +kernel)
  | dict _ => exact kit_ty (a := "dict") (b := "tuple") (r := false) (by decide +kernel)
theorem ki_lst (d : PyData) : PySem.W.kitOne K (.type (tyN d)) (.type "list") = some (isLst d) := by
  cases d with
  | none => exact kit_ty (a := "NoneType") (b := "list") (r := false) (by decide +kernel)
  | bool _ => exact kit_ty (a := "bool") (b := "list") (r := false) (by decide +kernel)
  | int _ => exact kit_ty (a := "int") (b := "list") (r := false) (by decide +kernel)
  | str _ => exact kit_ty (a := "str") (b := "list") (r := false) (by decide +kernel)
  | list _ => exact kit_ty (a := "list") (b := "list") (r := true) (by decide +kernel)
  | tuple _ => exact kit_ty (a := "tuple") (b := "list") (r := false) (by decide +kernel)
  | dict _ => exact kit_ty (a := "dict") (b := "list") (r := false) (by decide +kernel)
theorem ki_bool (d : PyData) : PySem.W.kitOne K (.type (tyN d)) (.type "bool") = some (isBool d) := by
  cases d with
  | none => exact kit_ty (a := "NoneType") (b := "bool") (r := false) (by decide +kernel)
  | bool _ => exact kit_ty (a := "bool") (b := "bool") (r := true) (by decide +kernel)
  | int _ => exact kit_ty (a := "int") (b := "bool") (r := false) (by decide +kernel)
  | str _ => exact kit_ty (a := "str") (b := "bool") (r := false) (by decide +kernel)
  | list _ => exact kit_ty (a := "list") (b := "bool") (r := false) (by decide +kernel)
  | tuple _ => exact kit_ty (a := "tuple") (b := "bool") (r := false) (by decide +kernel)
  | dict _ => exact kit_ty (a := "dict") (b := "bool") (r := false) (by decide +kernel)
theorem ki_tl (d : PyData) : PySem.W.kitAny K (.type (tyN d)) [.type "tuple", .type "list"] = some (isTup d || isLst d) := by
  refine kitAny_cons (ki_tup d) (fun e => ?_) fun e => by rw [e]; rfl
  refine kitAny_cons (ki_lst d) (fun e2 => ?_) fun e2 => by rw [e, e2]; rfl
  rw [e, e2]; rfl
theorem r_isiT {H : Hp} {v : V} {d : PyData} {tp : Addr} {Q : VK} (h : H tp = some (.tup [.ty "tuple", .ty "list"])) (hd : Dp K H v d) (q : Q (.bl (isTup d || isLst d)) H) : rIsiT K [v, .ref tp] H Q :=
  ⟨v, tp, [.ty "tuple", .ty "list"], _, [.type "tuple", .type "list"], _, rfl, h, .cons (.ty "tuple") (.cons (.ty "list") .nil), ty_of hd, ki_tl d, q⟩
def scal1 : PyData → Prop
  | .none => True
  | .bool _ => True
  | .int _ => True
  | .str x => PyData.strOk x = true
  | _ => False
def okd : Nat → PyData → Prop
  | 0, d => scal1 d
  | n + 1, d => scal1 d ∨ ∃ ds, (d = .tuple ds ∨ d = .list ds) ∧ ds.length ≤ 100000 ∧ ∀ e ∈ ds, okd n e
theorem scal1_tl {d : PyData} (h : scal1 d) : (isTup d || isLst d) = false := by cases d <;> first | rfl | exact h.elim
theorem scal1_eqv {d : PyData} (h : scal1 d) : PyData.eqv d d = true := by
  cases d with
  | none => rfl
  | bool b => cases b <;> rfl
  | int i => simp [PyData.eqv]
  | str x => simp [PyData.eqv]
  | list _ => exact h.elim
  | tuple _ => exact h.elim
  | dict _ => exact h.elim
theorem scal1_sh {d : PyData} (h : scal1 d) : SeqAt.shaped d = true := by
  cases d <;> first | exact h.elim | (simp [SeqAt.shaped, PyData.canLay0, PyData.depth]; done) | (simp [SeqAt.shaped, PyData.canLay0, PyData.depth]; exact h)
theorem walk_zipT {p q : Addr} {xs ys : List V} {n : Nat} (hn : n = min xs.length ys.length) : Walk (RZ.ItzT K p q) n (fun H => SqT K H p xs ∧ SqT K H q ys) (YPair (fun i => xs[i]?) (fun i => ys[i]?)) := by
  subst hn
  refine ⟨fun i _ hi h => ?_, fun _ h => ⟨xs, ys, h.1, h.2, by omega⟩, fun i H v H' _ h y => ?_⟩
  · have h1 : i < xs.length := by omega
    have h2 : i < ys.length := by omega
    exact ⟨xs, ys, xs[i], ys[i], h.1, h.2, by simp [h1], by simp [h2]⟩
  · obtain ⟨T, x, z, h1, h2, h3, h4, h5⟩ := y
    exact ⟨T, x, z, h1, h2, h3, h4 xs h.1, h5 ys h.2⟩
theorem bools_true {H : Hp} {xs : List V} {n : Nat} (h : DpAll K H xs ((List.range n).filterMap fun _ => some (PyData.bool true))) : ∃ bs : List Bool, xs = bs.map V.bl ∧ bs.all id = true := by
  generalize List.range n = l at h
  induction l generalizing xs with
  | nil => cases h; exact ⟨[], rfl, rfl⟩
  | cons z l ih =>
    cases h with
    | cons h t =>
      obtain ⟨bs, rfl, e⟩ := ih t
      cases h
      exact ⟨true :: bs, rfl, by simpa using e⟩
def sp__law_is (K : PySem.W.Frag) (n : Nat) : Sp := fun vs H Q _ => ∃ (v u : V) (d : PyData), vs = [v, u] ∧ okd n d ∧ Dp K H v d ∧ Dp K H u d ∧ ∀ H', G none H H' → Q (.bl true) H'
theorem ok__law_is (T : Txt K mg a) : ∀ n : Nat, FnOk P w K mg base CX0 (n + 1) a.f__law_is a.d__law_is P__law_is (sp__law_is K n)
  | 0 => by
    refine T.F__law_is.ok sc__law_is (fun vs H Q E h => by obtain ⟨v, u, d, rfl, _⟩ := h; rfl) (fun cdv A outer s H vs Q E hr h => ?_)
    obtain ⟨v, u, d, rfl, od, hv, hu, k⟩ := h
    have od : scal1 d := od
    refine ⟨_, (pss_cons (ps_if (pt_val (pe_callB call_isiT (by rfl) T.n_isinstance (by decide +kernel) (pa_cons (pv 1) (pa_cons (pe_tupN (pa_cons (pe_bltn (v := .ty "tuple") (u := .type "tuple") rfl T.n_tuple (by decide +kernel) rfl) (pa_cons (pe_bltn (v := .ty "list") (u := .type "list") rfl T.n_list (by decide +kernel) rfl) pa_nil))) pa_nil)))) pss_never pss_nil) (pss_one (ps_ret (pe_and (pe_cmpR op_eq (pe_callB call_isi (by rfl) T.n_isinstance (by decide +kernel) (pa_cons (pv 0) (pa_cons (pe_bltn (v := .ty "bool") (u := .type "bool") rfl T.n_bool (by decide +kernel) rfl) pa_nil))) (pe_callB call_isi (by rfl) T.n_isinstance (by decide +kernel) (pa_cons (pv 1) (pa_cons (pe_bltn (v := .ty "bool") (u := .type "bool") rfl T.n_bool (by decide +kernel) rfl) pa_nil))) (nomark _)) (pe_one (pe_cmpR (op_eqD hr.units) (pv 0) (pv 1) (nomark _))))))), ?_⟩
    walk_at "ws"
    refine ⟨sz (by simp), fun p H1 hp g1 h1 => ?_⟩
    have g1 := g1 none
    walk_at "ws"
    refine r_isiT h1 ((dp_n g1).1 _ _ hu) ?_
    rw [scal1_tl od]
    walk_at "ws"
    refine r_isi (ty_of ((dp_n g1).1 _ _ hv)) (ki_bool d) ?_
    walk_at "ws"
    refine r_isi (ty_of ((dp_n g1).1 _ _ hu)) (ki_bool d) ?_
    walk_at "ws"
    refine w_iteE (by simp) ?_
    walk_at "ws"
    refine ⟨d, d, (dp_n g1).1 _ _ hv, (dp_n g1).1 _ _ hu, scal1_sh od, scal1_sh od, ?_⟩
    rw [scal1_eqv od]
    exact k _ g1
  | n + 1 => by
    have ih : FnOk P w K mg base CX0 (n + 1) a.f__law_is a.d__law_is P__law_is (sp__law_is K n) := ok__law_is T n
    refine T.F__law_is.ok sc__law_is (fun vs H Q E h => by obtain ⟨v, u, d, rfl, _⟩ := h; rfl) (fun cdv A outer s H vs Q E hr h => ?_)
    obtain ⟨v, u, d, rfl, od, hv, hu, k⟩ := h
    refine ⟨_, (pss_cons (ps_if (pt_val (pe_callB call_isiT (by rfl) T.n_isinstance (by decide +kernel) (pa_cons (pv 1) (pa_cons (pe_tupN (pa_cons (pe_bltn (v := .ty "tuple") (u := .type "tuple") rfl T.n_tuple (by decide +kernel) rfl) (pa_cons (pe_bltn (v := .ty "list") (u := .type "list") rfl T.n_list (by decide +kernel) rfl) pa_nil))) pa_nil))))
    (pss_cons (ps_if (L2.PW.pt (pw_or (pt_cmpR op_ne (pe_callB call_isi (by rfl) T.n_isinstance (by decide +kernel) (pa_cons (pv 0) (pa_cons (pe_bltn (v := .ty "tuple") (u := .type "tuple") rfl T.n_tuple (by decide +kernel) rfl) pa_nil))) (pe_callB call_isi (by rfl) T.n_isinstance (by decide +kernel) (pa_cons (pv 1) (pa_cons (pe_bltn (v := .ty "tuple") (u := .type "tuple") rfl T.n_tuple (by decide +kernel) rfl) pa_nil))) (nomark _)) (pw_or1 (pt_not (pt_val (pe_callB call_isiT (by rfl) T.n_isinstance (by decide +kernel) (pa_cons (pv 0) (pa_cons (pe_tupN (pa_cons (pe_bltn (v := .ty "tuple") (u := .type "tuple") rfl T.n_tuple (by decide +kernel) rfl) (pa_cons (pe_bltn (v := .ty "list") (u := .type "list") rfl T.n_list (by decide +kernel) rfl) pa_nil))) pa_nil))))))))
    (pss_one (ps_ret pe_bl))
    pss_nil)
  (pss_one (ps_ret (pe_and (pe_cmpR op_eq (pe_callB call_len_seq (by rfl) T.n_len (by decide +kernel) (pa_cons (pv 0) pa_nil)) (pe_callB call_len_seq (by rfl) T.n_len (by decide +kernel) (pa_cons (pv 1) pa_nil)) (nomark _)) (pe_one (pe_callB (cr_all rfl) (by rfl) T.n_all (by decide +kernel) (pa_cons (pe_lc (own := [("_law_one", 2), ("_law_two", 3)]) (g := (gTup K 2 (gCons (gName 2) (gCons (gName 3) gNil)))) (tt := tYes) rfl sc__law_is.nd (RZ.pi_zipA (by rfl) T.n_zip (pa_cons (pv 0) (pa_cons (pv 1) pa_nil))) (blkOk_by (N := N__law_is) (sc := defScope s__law_is) (by decide +kernel)) (fun _ _ _ _ _ => (pg_tup rfl (pgs_cons (pg_name (i := 2) sc__law_is.nd rfl (by first | exact Or.inl rfl | exact Or.inr rfl)) (pgs_cons (pg_name (i := 3) sc__law_is.nd rfl (by first | exact Or.inl rfl | exact Or.inr rfl)) pgs_nil)))) (fun _ _ _ _ _ => pts_nil) (fun _ _ _ _ _ => (pe_call ih (hr.mono (by omega)) rfl T.m__law_is T.F__law_is.kp T.b__law_is .nil pass0 (pa_cons (pv 2) (pa_cons (pv 3) pa_nil))))) pa_nil)))))))
    pss_nil)
  (pss_one (ps_ret (pe_and (pe_cmpR op_eq (pe_callB call_isi (by rfl) T.n_isinstance (by decide +kernel) (pa_cons (pv 0) (pa_cons (pe_bltn (v := .ty "bool") (u := .type "bool") rfl T.n_bool (by decide +kernel) rfl) pa_nil))) (pe_callB call_isi (by rfl) T.n_isinstance (by decide +kernel) (pa_cons (pv 1) (pa_cons (pe_bltn (v := .ty "bool") (u := .type "bool") rfl T.n_bool (by decide +kernel) rfl) pa_nil))) (nomark _)) (pe_one (pe_cmpR (op_eqD hr.units) (pv 0) (pv 1) (nomark _))))))), ?_⟩
    walk_at "ws"
    refine ⟨sz (by simp), fun p H1 hp g1 h1 => ?_⟩
    have g1 := g1 none
    walk_at "ws"
    refine r_isiT h1 ((dp_n g1).1 _ _ hu) ?_
    rcases od with od | ⟨ds, od, hz, hds⟩
    · rw [scal1_tl od]
      walk_at "ws"
      refine r_isi (ty_of ((dp_n g1).1 _ _ hv)) (ki_bool d) ?_
      walk_at "ws"
      refine r_isi (ty_of ((dp_n g1).1 _ _ hu)) (ki_bool d) ?_
      walk_at "ws"
      refine w_iteE (by simp) ?_
      walk_at "ws"
      refine ⟨d, d, (dp_n g1).1 _ _ hv, (dp_n g1).1 _ _ hu, scal1_sh od, scal1_sh od, ?_⟩
      rw [scal1_eqv od]
      exact k _ g1
    · have e1 : (isTup d || isLst d) = true := by rcases od with rfl | rfl <;> rfl
      rw [e1]
      have hv1 := (dp_n g1).1 _ _ hv
      have hu1 := (dp_n g1).1 _ _ hu
      walk_at "ws"
      refine r_isi (ty_of hv1) (ki_tup d) ?_
      walk_at "ws"
      refine r_isi (ty_of hu1) (ki_tup d) ?_
      walk_at "ws"
      refine w_iteN (by simp) ?_
      walk_at "ws"
      refine ⟨sz (by simp), fun p2 H2 hp2 g2 h2 => ?_⟩
      have g2 := g2 none
      have hv2 := (dp_n g2).1 _ _ hv1
      have hu2 := (dp_n g2).1 _ _ hu1
      have g12 := g1.trans g2
      walk_at "ws"
      refine r_isiT h2 hv2 ?_
      rw [e1]
      walk_at "ws"
      -- the turn of one pair
      have turn : ∀ (i : Nat) (xs ys : List V) (H3 H4 : Hp) (x : V) (Qy : V → Hp → Prop) (Qn : Hp → Prop), DpAll K H2 xs ds → DpAll K H2 ys ds → G none H2 H3 → YPair (fun i => xs[i]?) (fun i => ys[i]?) i H3 x H4 →
          (∀ y H5 e, G none H3 H5 → Dp K H5 y e → nl e = true → some (PyData.bool true) = some e → Qy y H5) →
          ∃ (t : Addr) (y z : V) (e : PyData), x = .ref t ∧ H4 t = some (.tup [y, z]) ∧ e ∈ ds ∧ Dp K H4 y e ∧ Dp K H4 z e ∧ G none H3 H4 := by
        intro i xs ys H3 H4 x Qy Qn hx hy g3 hY ky
        obtain ⟨t, y, z, rfl, ht, rfl, ey, ez⟩ := hY
        obtain ⟨e, he, hye⟩ := DpAll.get hx ey
        obtain ⟨e', he', hze⟩ := DpAll.get hy ez
        rw [he] at he'; cases he'
        have g4 : G none H3 (upd H3 t (.tup [y, z])) := G.alloc ht
        exact ⟨t, y, z, e, rfl, upd_same, List.mem_of_getElem? he, (dp_n (g3.trans g4)).1 _ _ hye, (dp_n (g3.trans g4)).1 _ _ hze, g4⟩
      rcases od with rfl | rfl
      · obtain ⟨p3, xs, rfl, hxs, hxd⟩ := dp_tup hv2
        obtain ⟨p4, ys, rfl, hys, hyd⟩ := dp_tup hu2
        walk_at "ws"
        refine ⟨p3, xs, rfl, .inr hxs, ?_⟩
        walk_at "ws"
        refine ⟨p4, ys, rfl, .inr hys, ?_⟩
        walk_at "ws"
        have lx := DpAll.length hxd
        have ly := DpAll.length hyd
        refine w_iteE (by simp [lx, ly]) ?_
        walk_at "ws"
        refine ⟨p3, p4, xs, ys, rfl, .inr ⟨hxs, hys, ?_⟩⟩
        intro D hD
        refine lc_pure (K := K) (o := none) (walk_zipT (xs := xs) (ys := ys) rfl) (by omega) hD (fun _ e => nomatch e) (fun _ => some (PyData.bool true)) (fun H' g => ⟨sqT_t g.tups hxs, sqT_t g.tups hys⟩) ?_ ?_
        · intro i x H3 H4 hi g3 hY Qy Qn ky kn
          obtain ⟨t, y, z, e, rfl, h4, me, hy4, hz4, g4⟩ := turn i xs ys H3 H4 x Qy Qn hxd hyd g3 hY ky
          refine ⟨t, _, rfl, SqT.of h4, rfl, ?_⟩
          refine ⟨_, _, rfl, ?_⟩
          walk_at "ws"
          refine ⟨_, _, rfl, ?_⟩
          walk_at "ws"
          refine ⟨rfl, rfl, ?_⟩
          walk_at "ws"
          exact ⟨y, z, e, rfl, hds e me, hy4, hz4, fun H5 g5 => ky _ _ _ (g4.trans g5) (.bl true) rfl rfl⟩
        · intro xs' H' g hD' hds' _
          obtain ⟨bs, rfl, eb⟩ := bools_true hds'
          walk_at "ws"
          refine ⟨D, bs, rfl, SqL.of hD', ?_⟩
          rw [eb]
          exact k _ (g12.trans g)
      · cases hv2 with
        | lst hxs hxd =>
          cases hu2 with
          | lst hys hyd =>
            rename_i p3 xs p4 ys
            walk_at "ws"
            refine ⟨p3, xs, rfl, .inl hxs, ?_⟩
            walk_at "ws"
            refine ⟨p4, ys, rfl, .inl hys, ?_⟩
            walk_at "ws"
            have lx := DpAll.length hxd
            have ly := DpAll.length hyd
            refine w_iteE (by simp [lx, ly]) ?_
            walk_at "ws"
            refine ⟨p3, p4, xs, ys, rfl, .inl ⟨hxs, hys, ?_⟩⟩
            intro D hD
            refine lc_pure (K := K) (o := none) (walk_zip (xs := xs) (ys := ys) rfl) (by omega) hD (fun _ e => nomatch e) (fun _ => some (PyData.bool true)) (fun H' g => ⟨sqL_n g hxs, sqL_n g hys⟩) ?_ ?_
            · intro i x H3 H4 hi g3 hY Qy Qn ky kn
              obtain ⟨t, y, z, e, rfl, h4, me, hy4, hz4, g4⟩ := turn i xs ys H3 H4 x Qy Qn hxd hyd g3 hY ky
              refine ⟨t, _, rfl, SqT.of h4, rfl, ?_⟩
              refine ⟨_, _, rfl, ?_⟩
              walk_at "ws"
              refine ⟨_, _, rfl, ?_⟩
              walk_at "ws"
              refine ⟨rfl, rfl, ?_⟩
              walk_at "ws"
              exact ⟨y, z, e, rfl, hds e me, hy4, hz4, fun H5 g5 => ky _ _ _ (g4.trans g5) (.bl true) rfl rfl⟩
            · intro xs' H' g hD' hds' _
              obtain ⟨bs, rfl, eb⟩ := bools_true hds'
              walk_at "ws"
              refine ⟨D, bs, rfl, SqL.of hD', ?_⟩
              rw [eb]
              exact k _ (g12.trans g)

end
end Mine
/-! ## K7 -/


namespace Mine
section
variable {P : Program} {w : World} {K : PySem.W.Frag} {mg : Str → Option Value} {base : Heap} {a : Ads}

/-! ### _law_flag, _law_web -/
def sp__law_flag : Sp := fun vs H Q _ => ∃ (x y : Bool), vs = [.bl x, .bl y] ∧ Q (.bl (decide (x = y))) H
theorem ok__law_flag (T : Txt K mg a) : FnOk P w K mg base CX0 1 a.f__law_flag a.d__law_flag P__law_flag sp__law_flag := by
  refine T.F__law_flag.ok sc__law_flag (fun vs H Q E h => by obtain ⟨x, y, rfl, _⟩ := h; rfl) (fun cdv A outer s H vs Q E hr h => ?_)
  obtain ⟨x, y, rfl, k⟩ := h
  refine ⟨_, (pss_one (ps_ret (pe_and (pe_callB call_isi (by rfl) T.n_isinstance (by decide +kernel) (pa_cons (pv 0) (pa_cons (pe_bltn (v := .ty "bool") (u := .type "bool") rfl T.n_bool (by decide +kernel) rfl) pa_nil))) (pe_one (pe_cmpR op_eq (pv 0) (pv 1) (nomark _)))))), ?_⟩
  walk_at "ws"
  refine r_isi ty_bl ki_bb ?_
  walk_at "ws"
  exact k
theorem new_back {H0 H1 : Hp} {hd c l : Addr} (g : G (some (hd, c)) H0 H1) (x : Hand H1 hd c) (h : H1 l = none) : H0 l = none := by
  cases e : H0 l with
  | none => rfl
  | some u =>
    have n : l ≠ hd := x.ne h
    rw [g.keep l u (fun p e => by cases e; exact n) e] at h
    cases h
theorem at4 {b0 b1 b2 b3 : Bool} {z : Int} (h0 : 0 ≤ z) (h1 : z ≤ 3) : ∃ b, atI [V.bl b0, V.bl b1, V.bl b2, V.bl b3] z = some (.bl b) := by
  have : z = 0 ∨ z = 1 ∨ z = 2 ∨ z = 3 := by omega
  rcases this with rfl | rfl | rfl | rfl
  · exact ⟨b0, rfl⟩
  · exact ⟨b1, rfl⟩
  · exact ⟨b2, rfl⟩
  · exact ⟨b3, rfl⟩
/-- some wires, all ahead of (y, x) -/
structure Part (m : Int) (ws : List (Int × Int)) (y x : Int) : Prop where
  mem : ∀ u ∈ ws, (0 ≤ u.1 ∧ u.1 < m) ∧ (0 ≤ u.2 ∧ u.2 < m) ∧ u.1 ≠ u.2
  asc : ws.Pairwise ltP
  lt : ∀ u ∈ ws, ltP u (y, x)
theorem Part.up {m y x y' x' : Int} {ws : List (Int × Int)} (h : Part m ws y x) (e : y < y' ∨ (y = y' ∧ x ≤ x')) : Part m ws y' x' := ⟨h.mem, h.asc, fun u hu => by
  have q := h.lt u hu
  simp only [ltP] at q ⊢
  omega⟩
theorem Part.app {m y x : Int} {ws : List (Int × Int)} (h : Part m ws y x) (h1 : 0 ≤ y ∧ y < m) (h2 : 0 ≤ x ∧ x < m) (h3 : y ≠ x) : Part m (ws ++ [(y, x)]) y (x + 1) := by
  refine ⟨fun u hu => ?_, ?_, fun u hu => ?_⟩
  · rcases List.mem_append.mp hu with z | z
    · exact h.mem u z
    · have : u = (y, x) := by simpa using z
      subst this; exact ⟨h1, h2, h3⟩
  · rw [List.pairwise_append]
    refine ⟨h.asc, List.pairwise_singleton _ _, fun u hu v hv => ?_⟩
    have : v = (y, x) := by simpa using hv
    subst this; exact h.lt u hu
  · rcases List.mem_append.mp hu with z | z
    · have q := h.lt u z
      simp only [ltP] at q ⊢
      omega
    · have e : u = (y, x) := by simpa using z
      rw [e]
      exact .inr ⟨rfl, by show x < x + 1; omega⟩
def sp__law_web (K : PySem.W.Frag) : Sp := fun vs H Q _ => ∃ (hd c : Addr) (m : Int), vs = [.ref hd, .int m] ∧ Hand H hd c ∧ 1 ≤ m ∧ m ≤ 7 ∧ ∀ p ws H', G (some (hd, c)) H H' → Hand H' hd c → Dp K H' (.ref p) (dW ws) → IsWeb m ws → Q (.ref p) H'
/-- the loops' word -/
def WebW (K : PySem.W.Frag) (H : Hp) (hd c l : Addr) (m y x : Int) (H' : Hp) : Prop := ∃ (vs : List V) (ws : List (Int × Int)), G (some (hd, c)) H H' ∧ Hand H' hd c ∧ H' l = some (.lst vs) ∧ DpAll K H' vs (ws.map dP) ∧ Part m ws y x ∧ vs.length ≤ 10000
theorem part_len {m y x : Int} {ws : List (Int × Int)} (h : Part m ws y x) (hm : m ≤ 7) : ws.length ≤ 10000 := by
  have hn : (ws.map fun u => (u.1 * 7 + u.2).toNat).Nodup := by
    have : (ws.map fun u => (u.1 * 7 + u.2).toNat).Pairwise (· < ·) := by
      rw [List.pairwise_map]
      refine List.Pairwise.imp_of_mem (fun {u v} hu hv huv => ?_) h.asc
      have h1 := h.mem u hu
      have h2 := h.mem v hv
      unfold ltP at huv
      omega
    exact this.imp fun h => Nat.ne_of_lt h
  have hs : ∀ k ∈ (ws.map fun u => (u.1 * 7 + u.2).toNat), k ∈ List.range 10000 := by
    intro k hk
    obtain ⟨u, hu, rfl⟩ := List.mem_map.mp hk
    have h1 := h.mem u hu
    rw [List.mem_range]
    omega
  have := List.Nodup.length_le_of_subset hn hs
  simpa using this
theorem ok__law_web (T : Txt K mg a) : FnOk P w K mg base CX0 2 a.f__law_web a.d__law_web P__law_web (sp__law_web K) := by
  refine T.F__law_web.ok sc__law_web (fun vs H Q E h => by obtain ⟨hd, c, m, rfl, _⟩ := h; rfl) (fun cdv A outer s H vs Q E hr h => ?_)
  obtain ⟨hd, c, m, rfl, hh, m1, m7, k⟩ := h
  have G__law_draw : FnOk P w K mg base CX0 1 a.f__law_draw a.d__law_draw P__law_draw sp__law_draw := ok__law_draw T
  refine ⟨_, (pss_cons (ps_set (i := 2) sc__law_web.nd rfl (Or.inl rfl) (pe_call (G__law_draw) (hr.mono (by omega)) rfl T.m__law_draw T.F__law_draw.kp T.b__law_draw .nil pass0 (pa_cons (pv 0) (pa_cons pe_int pa_nil))))
  (pss_cons (ps_set (i := 3) sc__law_web.nd rfl (Or.inl rfl) (pe_lstN pa_nil))
  (pss_cons (ps_for PassesOwn.never rfl (pi_range1 rfl T.n_range (pa_cons (pv 1) pa_nil)) (pg_name (i := 4) sc__law_web.nd rfl (Or.inl rfl))
    (pss_one (ps_for PassesOwn.never rfl (pi_range1 rfl T.n_range (pa_cons (pv 1) pa_nil)) (pg_name (i := 5) sc__law_web.nd rfl (Or.inl rfl))
    (pss_cons (ps_set (i := 6) sc__law_web.nd rfl (Or.inl rfl) (pe_ix ix_list (pe_lstN (pa_cons pe_bl (pa_cons (pe_cmpR op_in_seq (pe_callB call_abs (by rfl) T.n_abs (by decide +kernel) (pa_cons (pe_op op_sub (pv 4) (pv 5)) pa_nil)) (pe_lstN (pa_cons pe_int (pa_cons (pe_op op_sub (pv 1) pe_int) pa_nil))) (by rfl)) (pa_cons (pe_cmpR op_eq (pe_callB call_abs (by rfl) T.n_abs (by decide +kernel) (pa_cons (pe_op op_sub (pv 4) (pv 5)) pa_nil)) pe_int (nomark _)) (pa_cons (pe_or (pe_cmpR op_eq (pv 4) pe_int (nomark _)) (pe_one (pe_cmpR op_eq (pv 5) pe_int (nomark _)))) pa_nil))))) (pe_callB (call_min2 rfl) (by rfl) T.n_min (by decide +kernel) (pa_cons (pv 2) (pa_cons pe_int pa_nil))) (fun _ _ => rfl)))
  (pss_cons (ps_if (pt_cmpR op_gt (pv 2) pe_int (nomark _))
    (pss_one (ps_set (i := 6) sc__law_web.nd rfl (Or.inl rfl) (pe_cmpR op_lt (pe_call (G__law_draw) (hr.mono (by omega)) rfl T.m__law_draw T.F__law_draw.kp T.b__law_draw .nil pass0 (pa_cons (pv 0) (pa_cons pe_int pa_nil))) (pe_op op_sub (pv 2) pe_int) (nomark _))))
    pss_nil)
  (pss_one (ps_if (L2.PW.pt (pw_and (pt_cmpR op_ne (pv 4) (pv 5) (nomark _)) (pw_and1 (pt_val (pv 6)))))
    (pss_one (ps_expr (pe_bm PySem.F.plainAttrs_list PySem.F.slot_list_append PySem.F.type_list_append mt_append (pv 3) (pa_cons (pe_tupN (pa_cons (pv 4) (pa_cons (pv 5) pa_nil))) pa_nil))))
    pss_nil)))))))
  (pss_one (ps_ret (pe_callTy call_tupleN (by rfl) T.n_tuple (by decide +kernel) (pa_cons (pv 3) pa_nil))))))), ?_⟩
  walk_at "ws"
  refine ⟨hd, c, 6, rfl, hh, by decide, by decide, fun kind H1 k0 k1 g1 hh1 => ?_⟩
  walk_at "ws"
  refine ⟨sz (by simp), fun l H2 hl g2 h2 => ?_⟩
  have l0 : H l = none := new_back g1 hh1 hl
  have nl : l ≠ hd := hh1.ne hl
  have g2 := g1.trans (g2 _)
  have hh2 := g2.hand _ rfl hh
  have offl : ∀ p, some (hd, c) = some p → l ≠ p.1 := fun p e => by cases e; exact nl
  walk_at "ws"
  refine i_rng1 (by omega) (by omega) ?_
  refine for_it walk_range (fun i σ H' => WebW K H hd c l m i 0 H' ∧ ∃ u v x, σ = [some (.ref hd), some (.int m), some (.int kind), some (.ref l), u, v, x]) ⟨⟨[], [], g2, hh2, h2, .nil, ⟨(fun _ h => nomatch h), .nil, (fun _ h => nomatch h)⟩, Nat.zero_le _⟩, _, _, _, rfl⟩ (fun _ _ _ _ _ => trivial) ?_ ?_
  · rintro y _ σ _ H3 hy ⟨hW, u, v, x, rfl⟩ ⟨rfl, rfl⟩
    walk_at "ws"
    refine i_rng1 (by omega) (by omega) ?_
    refine for_it walk_range (fun i σ H' => WebW K H hd c l m y i H' ∧ ∃ v x, σ = [some (.ref hd), some (.int m), some (.int kind), some (.ref l), some (.int (0 + (y : Int))), v, x]) ⟨hW, _, _, rfl⟩ (fun _ _ _ _ _ => trivial) ?_ ?_
    · rintro x _ σ _ H4 hx ⟨⟨ls, ws, g4, hh4, h4, hd4, hp, hz⟩, v, x', rfl⟩ ⟨rfl, rfl⟩
      refine w_seqM (fun σ H' => ∃ b : Bool, σ = [some (.ref hd), some (.int m), some (.int kind), some (.ref l), some (.int (0 + (y : Int))), some (.int (0 + (x : Int))), some (.bl b)] ∧ G (some (hd, c)) H4 H') (fun N kN => ?_) ?_
      · walk_at "ws"
        refine ⟨_, rfl, ?_⟩
        walk_at "ws"
        refine ⟨sz (by simp), fun q H5 hq g5 h5 => ?_⟩
        refine ⟨q, _, rfl, .inl (SqL.of h5), rfl, rfl, ?_⟩
        walk_at "ws"
        refine ⟨_, rfl, ?_⟩
        walk_at "ws"
        refine w_ite (fun e => ?_) (fun e => ?_) <;>
        · walk_at "ws"
          refine ⟨sz (by simp), fun p H6 hp g6 h6 => ?_⟩
          walk_at "ws"
          refine ⟨_, _, rfl, ?_⟩
          refine r_ixL (SqL.of h6) (at4 (by split <;> omega) (by split <;> omega)).choose_spec ?_
          walk_at "ws"
          exact kN _ _ ⟨_, rfl, (g5 _).trans (g6 _)⟩
      · rintro σ H5 ⟨b, rfl, g5⟩
        have hh5 := g5.hand _ rfl hh4
        refine w_seqM (fun σ H' => ∃ b : Bool, σ = [some (.ref hd), some (.int m), some (.int kind), some (.ref l), some (.int (0 + (y : Int))), some (.int (0 + (x : Int))), some (.bl b)] ∧ G (some (hd, c)) H4 H') (fun N kN => ?_) ?_
        · walk_at "ws"
          refine w_ite (fun e => ?_) (fun e => ?_)
          · walk_at "ws"
            refine ⟨hd, c, 4, rfl, hh5, by decide, by decide, fun r H6 r0 r1 g6 hh6 => ?_⟩
            walk_at "ws"
            exact kN _ _ ⟨_, rfl, g5.trans g6⟩
          · walk_at "ws"
            exact kN _ _ ⟨_, rfl, g5⟩
        · clear g5 hh5
          rintro σ H5 ⟨b, rfl, g5⟩
          have hh5 := g5.hand _ rfl hh4
          have h5 := g5.keep l _ offl h4
          have hd5 := dpAll_t g5.tups _ _ (nls_pairs ws) hd4
          have g05 := g4.trans g5
          have done : WebW K H hd c l m y ((x : Int) + 1) H5 := ⟨ls, ws, g05, hh5, h5, hd5, hp.up (by omega), hz⟩
          walk_at "ws"
          refine w_ite (fun e => ?_) (fun e => ?_)
          · walk_at "ws"
            refine w_ite (fun eb => ?_) (fun eb => ?_)
            · walk_at "ws"
              refine i_BM h5 ?_
              walk_at "ws"
              refine ⟨sz (by simp), fun t H6 ht g6 h6 => ?_⟩
              have h6l := (g6 none).all _ _ h5
              have hd6 := dpAll_t (g6 none).tups _ _ (nls_pairs ws) hd5
              walk_at "ws"
              refine r_app h6l (by omega) ?_
              walk_at "ws"
              have g06 := g05.trans (g6 _)
              have g07 : G (some (hd, c)) H (upd H6 l (.lst (ls ++ [.ref t]))) := g06.mut l0 (fun p e => by cases e; exact hh)
              have tt : Ts H6 (upd H6 l (.lst (ls ++ [.ref t]))) := Ts.updl h6l
              have hp' := hp.app (y := y) (x := x) (by omega) (by omega) (by
                have := e
                simp at this
                omega)
              have hdt : Dp K H6 (.ref t) (dP ((y : Int), (x : Int))) := dp_ofP (by
                have z := SqT.of (K := K) h6
                rw [Int.zero_add, Int.zero_add] at z
                exact z)
              refine ⟨⟨_, ws ++ [((y : Int), (x : Int))], g07, g07.hand _ rfl hh, upd_same, ?_, hp', ?_⟩, _, _, rfl⟩
              · rw [List.map_append]
                exact DpAll.app (dpAll_t tt _ _ (nls_pairs ws) hd6) (DpAll.one (dp_t tt _ _ (nl_dP _) hdt))
              · have l1 := part_len hp' m7
                have l2 := DpAll.length hd6
                simp only [List.length_append, List.length_map, List.length_singleton] at l1 l2 ⊢
                omega
            · walk_at "ws"
              exact ⟨done, _, _, rfl⟩
          · walk_at "ws"
            exact ⟨done, _, _, rfl⟩
    · rintro σ H4 ⟨⟨ls, ws, g4, hh4, h4, hd4, hp, hz⟩, v, x', rfl⟩
      exact ⟨⟨ls, ws, g4, hh4, h4, hd4, hp.up (by omega), hz⟩, _, _, _, rfl⟩
  · rintro σ H4 ⟨⟨ls, ws, g4, hh4, h4, hd4, hp, hz⟩, u, v, x', rfl⟩
    walk_at "ws"
    refine ⟨l, ls, rfl, .inl ⟨SqL.of h4, fun p H5 hp5 g5 h5 => ?_⟩⟩
    exact k p ws H5 (g4.trans (g5 _)) ((g5 (some (hd, c))).hand (hd, c) rfl hh4) (.tup (SqT.of h5) (dpAll_t (g5 none).tups _ _ (nls_pairs ws) hd4)) ⟨m1, m7, hp.mem, hp.asc⟩

end
end Mine
/-! ## K8 -/


namespace Mine
section
variable {P : Program} {w : World} {K : PySem.W.Frag} {mg : Str → Option Value} {base : Heap} {a : Ads}

/-! ### the law's table of ways -/
def rowV (n : Nat) (f : Nat → Bool) : List V := (List.range n).map fun z => V.bl (f z)
theorem rowV_len (n : Nat) (f : Nat → Bool) : (rowV n f).length = n := by simp [rowV]
theorem rowV_at {n : Nat} {f : Nat → Bool} {i : Nat} (h : i < n) : (rowV n f)[i]? = some (.bl (f i)) := by simp [rowV, h]
theorem rowV_set {n : Nat} {f : Nat → Bool} {i : Nat} {b : Bool} : (rowV n f).set i (.bl b) = rowV n (fun z => if z = i then b else f z) := by
  apply List.ext_getElem?
  intro j
  rw [List.getElem?_set]
  by_cases hj : i = j
  · subst hj
    by_cases hn : i < n
    · rw [if_pos rfl, if_pos (by rw [rowV_len]; exact hn), rowV_at hn]; simp
    · rw [if_pos rfl, if_neg (by rw [rowV_len]; exact hn)]
      simp [rowV, hn]
  · rw [if_neg hj]
    by_cases hn : j < n
    · rw [rowV_at hn, rowV_at hn, if_neg (fun e => hj e.symm)]
    · simp [rowV, hn]
/-- a list of rows at p, the rows' lists at rs -/
structure Tab (H : Hp) (p : Addr) (rs : List Addr) (n : Nat) (f : Nat → Nat → Bool) : Prop where
  top : H p = some (.lst (rs.map V.ref))
  len : rs.length = n
  nd : rs.Nodup
  no : p ∉ rs
  row : ∀ (y : Nat) (r : Addr), rs[y]? = some r → H r = some (.lst (rowV n (f y)))
theorem Tab.get {H : Hp} {p : Addr} {rs : List Addr} {n : Nat} {f : Nat → Nat → Bool} (t : Tab H p rs n f) {y : Nat} (h : y < n) : ∃ r, rs[y]? = some r ∧ H r = some (.lst (rowV n (f y))) ∧ r ≠ p := by
  have h' : y < rs.length := by rw [t.len]; exact h
  refine ⟨rs[y], List.getElem?_eq_getElem h', t.row y _ (List.getElem?_eq_getElem h'), fun e => t.no (e ▸ List.getElem_mem h')⟩
theorem Tab.n {H H' : Hp} {p : Addr} {rs : List Addr} {n : Nat} {f : Nat → Nat → Bool} (t : Tab H p rs n f) (g : G none H H') : Tab H' p rs n f := ⟨g.all _ _ t.top, t.len, t.nd, t.no, fun y r h => g.all _ _ (t.row y r h)⟩
theorem Tab.set {H : Hp} {p : Addr} {rs : List Addr} {n : Nat} {f : Nat → Nat → Bool} (t : Tab H p rs n f) {y x : Nat} {r : Addr} (hr : rs[y]? = some r) {b : Bool} :
    Tab (upd H r (.lst ((rowV n (f y)).set x (.bl b)))) p rs n (fun u v => if u = y ∧ v = x then b else f u v) := by
  have hm : r ∈ rs := List.mem_of_getElem? hr
  have np : p ≠ r := fun e => t.no (e ▸ hm)
  refine ⟨by rw [upd_ne np]; exact t.top, t.len, t.nd, t.no, fun u q hq => ?_⟩
  by_cases e : u = y
  · subst e
    rw [hr] at hq; cases hq
    rw [upd_same, rowV_set]
    congr 3
    funext z
    by_cases hz : z = x <;> simp [hz]
  · have nq : q ≠ r := fun e2 => e (nd_ix t.nd hq (e2 ▸ hr))
    rw [upd_ne nq, t.row u q hq]
    congr 3
    funext z
    simp [e]
theorem Tab.at {H : Hp} {p : Addr} {rs : List Addr} {n : Nat} {f : Nat → Nat → Bool} (t : Tab H p rs n f) {y : Nat} {r : Addr} {z : Int} (hr : rs[y]? = some r) (e : z = (y : Int)) : atI (rs.map V.ref) z = some (.ref r) := at_of e (by rw [List.getElem?_map, hr]; rfl)
theorem row_at {n y : Nat} {f : Nat → Bool} {z : Int} (h : y < n) (e : z = (y : Int)) : atI (rowV n f) z = some (.bl (f y)) := at_of e (rowV_at h)
def sp__law_table (K : PySem.W.Frag) : Sp := fun vs H Q _ => ∃ (m : Int) (q : Addr) (ws : List (Int × Int)), vs = [.int m, .ref q] ∧ IsWeb m ws ∧ Dp K H (.ref q) (dW ws) ∧
  ∀ p rs f H', G none H H' → Tab H' p rs m.toNat f → (∀ y x : Nat, y < m.toNat → x < m.toNat → (f y x = true ↔ Reach ws y x)) → Q (.ref p) H'
/-- what holds of the table at the stage k: sound, all ways by machines below k -/
structure Stg (ws : List (Int × Int)) (n k : Nat) (f : Nat → Nat → Bool) : Prop where
  sound : ∀ y x : Nat, y < n → x < n → f y x = true → Reach ws y x
  full : ∀ y x : Nat, y < n → x < n → Via ws k y x → f y x = true
/-- within the stage k, which began with f0: those ahead of (y, x) are done -/
structure Mid (ws : List (Int × Int)) (n k : Nat) (f0 : Nat → Nat → Bool) (y x : Nat) (f : Nat → Nat → Bool) : Prop where
  sound : ∀ y x : Nat, y < n → x < n → f y x = true → Reach ws y x
  more : ∀ u v : Nat, u < n → v < n → f0 u v = true → f u v = true
  done : ∀ u v : Nat, u < n → v < n → (u < y ∨ (u = y ∧ v < x)) → f0 u k = true → f0 k v = true → f u v = true
theorem Mid.turn {ws : List (Int × Int)} {n k y x : Nat} {f0 f : Nat → Nat → Bool} (h : Mid ws n k f0 y x f) (hk : k < n) (hy : y < n) (hx : x < n) : Mid ws n k f0 y (x + 1) (fun u v => if u = y ∧ v = x then (f y x || (f y k && f k x)) else f u v) := by
  refine ⟨fun u v hu hv e => ?_, fun u v hu hv e => ?_, fun u v hu hv e e1 e2 => ?_⟩
  · by_cases c : u = y ∧ v = x
    · rw [if_pos c] at e
      obtain ⟨rfl, rfl⟩ := c
      rw [Bool.or_eq_true, Bool.and_eq_true] at e
      rcases e with e | ⟨e1, e2⟩
      · exact h.sound _ _ hu hv e
      · exact (h.sound _ _ hu hk e1).trans (h.sound _ _ hk hv e2)
    · rw [if_neg c] at e; exact h.sound _ _ hu hv e
  · by_cases c : u = y ∧ v = x
    · rw [if_pos c]; obtain ⟨rfl, rfl⟩ := c; rw [h.more _ _ hu hv e]; rfl
    · rw [if_neg c]; exact h.more _ _ hu hv e
  · by_cases c : u = y ∧ v = x
    · rw [if_pos c]; obtain ⟨rfl, rfl⟩ := c
      rw [h.more _ _ hu hk e1, h.more _ _ hk hv e2]; simp
    · rw [if_neg c]
      exact h.done u v hu hv (by omega) e1 e2
theorem Mid.row {ws : List (Int × Int)} {n k y : Nat} {f0 f : Nat → Nat → Bool} (h : Mid ws n k f0 y n f) : Mid ws n k f0 (y + 1) 0 f := ⟨h.sound, h.more, fun u v hu hv e => h.done u v hu hv (by omega)⟩
theorem Stg.mid {ws : List (Int × Int)} {n k : Nat} {f : Nat → Nat → Bool} (h : Stg ws n k f) : Mid ws n k f 0 0 f := ⟨h.sound, fun _ _ _ _ e => e, fun u v _ _ e => by omega⟩
theorem Mid.stg {ws : List (Int × Int)} {n k : Nat} {f0 f : Nat → Nat → Bool} (h0 : Stg ws n k f0) (h : Mid ws n k f0 n 0 f) (hk : k < n) : Stg ws n (k + 1) f := ⟨h.sound, fun y x hy hx v => by
  have v' : Via ws ((k : Int) + 1) y x := by exact_mod_cast v
  rcases v'.up with v | ⟨v1, v2⟩
  · exact h.more _ _ hy hx (h0.full _ _ hy hx v)
  · exact h.done _ _ hy hx (.inl hy) (h0.full _ _ hy hk v1) (h0.full _ _ hk hx v2)⟩
theorem via0 {ws : List (Int × Int)} (hw : ∀ u ∈ ws, 0 ≤ u.1 ∧ 0 ≤ u.2) {y x : Int} (h : Via ws 0 y x) (hy : 0 ≤ y) : y = x ∨ (y, x) ∈ ws := by
  have : 0 ≤ x ∧ (y = x ∨ (y, x) ∈ ws) := by
    induction h with
    | refl y => exact ⟨hy, .inl rfl⟩
    | one e => exact ⟨(hw _ e).2, .inr e⟩
    | mid hz _ _ h1 h2 =>
      have := (h1 hy).1
      omega
  exact this.2
theorem ok__law_table (T : Txt K mg a) : FnOk P w K mg base CX0 1 a.f__law_table a.d__law_table P__law_table (sp__law_table K) := by
  refine T.F__law_table.ok sc__law_table (fun vs H Q E h => by obtain ⟨m, q, ws, rfl, _⟩ := h; rfl) (fun cdv A outer s H vs Q E hr h => ?_)
  obtain ⟨m, q, ws, rfl, hw, hx, k⟩ := h
  have m1 := hw.lo
  have m7 := hw.hi
  obtain ⟨n, rfl⟩ : ∃ n : Nat, m = (n : Int) := ⟨m.toNat, by omega⟩
  rw [Int.toNat_natCast] at k
  refine ⟨_, (pss_cons (ps_setLc (i := 4) (own := [("_law_y", 2)]) (g := (gName 2)) (tt := tYes)  rfl sc__law_table.nd rfl rfl (sw_true rfl rfl rfl (by decide +kernel)) (pi_range1 rfl T.n_range (pa_cons (pv 0) pa_nil)) (blkOk_by (N := N__law_table) (sc := defScope s__law_table) (by decide +kernel)) (fun _ _ _ _ _ => (pg_name (i := 2) sc__law_table.nd rfl (by first | exact Or.inl rfl | exact Or.inr rfl))) (fun _ _ _ _ _ => pts_nil) (fun _ _ _ _ _ => (pe_lc (own := [("_law_x", 3)]) (g := (gName 3)) (tt := tYes) rfl sc__law_table.nd (pi_range1 rfl T.n_range (pa_cons (pv 0) pa_nil)) (blkOk_by (N := N__law_table) (by kernel_rfl)) (fun _ _ _ _ _ => (pg_name (i := 3) sc__law_table.nd rfl (by first | exact Or.inl rfl | exact Or.inr rfl))) (fun _ _ _ _ _ => pts_nil) (fun _ _ _ _ _ => (pe_or (pe_cmpR op_eq (pv 2) (pv 3) (nomark _)) (pe_one (pe_cmpR (k_op_inDT K (u65 hr)) (pe_tupN (pa_cons (pv 2) (pa_cons (pv 3) pa_nil))) (pv 1) (by rfl))))))))
  (pss_cons (ps_for PassesOwn.never rfl (pi_range1 rfl T.n_range (pa_cons (pv 0) pa_nil)) (pg_name (i := 5) sc__law_table.nd rfl (Or.inl rfl))
    (pss_one (ps_for PassesOwn.never rfl (pi_range1 rfl T.n_range (pa_cons (pv 0) pa_nil)) (pg_name (i := 2) sc__law_table.nd rfl (Or.inl rfl))
    (pss_one (ps_for PassesOwn.never rfl (pi_range1 rfl T.n_range (pa_cons (pv 0) pa_nil)) (pg_name (i := 3) sc__law_table.nd rfl (Or.inl rfl))
    (pss_one (ps_asg (pe_or (pe_ix ix_list (pe_ix ix_list (pv 4) (pv 2) (fun _ _ => rfl)) (pv 3) (fun _ _ => rfl)) (pe_one (pe_and (pe_ix ix_list (pe_ix ix_list (pv 4) (pv 2) (fun _ _ => rfl)) (pv 5) (fun _ _ => rfl)) (pe_one (pe_ix ix_list (pe_ix ix_list (pv 4) (pv 5) (fun _ _ => rfl)) (pv 3) (fun _ _ => rfl)))))) (pg_sub (pe_ix ix_list (pv 4) (pv 2) (fun _ _ => rfl)) (pv 3) set_list))))))))
  (pss_one (ps_ret (pv 4))))), ?_⟩
  walk_at "ws"
  refine i_rng1 (by omega) (by omega) ?_
  rw [Int.toNat_natCast]
  intro D hD
  refine lc_it walk_range (fun i H1 => ∃ rs : List Addr, G none H H1 ∧ H1 D = some (.lst (rs.map V.ref)) ∧ rs.length = i ∧ rs.Nodup ∧ D ∉ rs ∧ (∀ (y : Nat) (r : Addr), rs[y]? = some r → H1 r = some (.lst (rowV n fun x => decide (y = x) || decide (((y : Int), (x : Int)) ∈ ws)))) ∧ ∀ r ∈ rs, H r = none) ⟨[], G.alloc hD, upd_same, rfl, .nil, (fun h => nomatch h), (fun y r h => by simp at h), (fun _ h => nomatch h)⟩ (fun _ _ _ _ => trivial) ?_ ?_
  · rintro y _ _ H1 hy ⟨rs, g1, h1, hl, hn, hno, hrow, hnew⟩ ⟨rfl, rfl⟩
    walk_at "ws"
    refine ⟨rfl, ?_⟩
    walk_at "ws"
    refine i_rng1 (by omega) (by omega) ?_
    rw [Int.toNat_natCast]
    intro D2 hD2
    refine lc_pure (K := K) (o := none) walk_range (by omega) hD2 (fun _ e => nomatch e) (fun x => some (PyData.bool (decide (y = x) || decide (((y : Int), (x : Int)) ∈ ws)))) (fun _ _ => trivial) ?_ ?_
    · rintro x _ _ H2 hx2 g2 ⟨rfl, rfl⟩ Qy Qn ky kn
      walk_at "ws"
      refine ⟨rfl, ?_⟩
      walk_at "ws"
      refine w_ite (fun e => ?_) (fun e => ?_)
      · have e' : y = x := by
          have := of_decide_eq_true e
          omega
        exact ky _ _ _ G.refl (.bl true) rfl (by simp [e'])
      · have e' : ¬ y = x := by
          have := of_decide_eq_false e
          omega
        walk_at "ws"
        refine ⟨sz (by simp), fun t H3 ht g3 h3 => ?_⟩
        walk_at "ws"
        have hdt : Dp K H3 (.ref t) (dP ((y : Int), (x : Int))) := dp_ofP (by
          have z := SqT.of (K := K) h3
          simp only [Int.zero_add] at z
          exact z)
        refine ⟨_, _, hdt, (dp_n ((g1.trans g2).trans (g3 none))).1 _ _ hx, sh_dP _, sh_dW ws, ?_⟩
        rw [any_dP]
        exact ky _ _ _ (g3 none) (.bl _) rfl (by simp [e'])
    · intro xs H2 g2 hD2' hds _
      have e : xs = rowV n fun x => decide (y = x) || decide (((y : Int), (x : Int)) ∈ ws) := by
        unfold rowV
        clear hD2'
        generalize List.range n = l at hds
        induction l generalizing xs with
        | nil => cases hds; rfl
        | cons z l ih =>
          rw [List.filterMap_cons] at hds
          cases hds with
          | cons h t => cases h; rw [ih _ t]; rfl
      subst e
      have h1' := g2.all _ _ h1
      refine ⟨rs.map V.ref, h1', Nat.lt_of_le_of_lt (by rw [List.length_map]; omega : (rs.map V.ref).length ≤ 100000) (by decide), rs ++ [D2], ?_⟩
      have nDD : D2 ≠ D := (ne_of_none h1 hD2).symm
      have n2 : D2 ∉ rs := fun hm => by
        obtain ⟨j, hj⟩ := List.getElem?_of_mem hm
        have := hrow j D2 hj
        rw [hD2] at this; cases this
      have g12 := g1.trans g2
      refine ⟨g12.mut hD (fun _ e => nomatch e), by rw [upd_same, List.map_append]; rfl, by rw [List.length_append, hl]; rfl, ?_, ?_, ?_, ?_⟩
      · rw [List.nodup_append]
        exact ⟨hn, by simp, fun a ha b hb => by
          have : b = D2 := by simpa using hb
          rw [this]; intro e; exact n2 (e ▸ ha)⟩
      · intro hm
        rcases List.mem_append.mp hm with z | z
        · exact hno z
        · have : D = D2 := by simpa using z
          exact nDD this.symm
      · intro u r hu
        by_cases c : u < rs.length
        · rw [List.getElem?_append_left c] at hu
          have nr : r ≠ D := fun e => hno (e ▸ List.mem_of_getElem? hu)
          rw [upd_ne nr]
          exact g2.all _ _ (hrow u r hu)
        · rw [List.getElem?_append_right (by omega)] at hu
          have hu0 : u = y := by
            cases q : u - rs.length with
            | zero => omega
            | succ j => rw [q] at hu; simp at hu
          subst hu0
          have : r = D2 := by
            rw [hl, Nat.sub_self] at hu
            simpa using hu.symm
          subst this
          rw [upd_ne nDD]
          exact hD2'
      · intro r hm
        rcases List.mem_append.mp hm with z | z
        · exact hnew r z
        · have e : r = D2 := by simpa using z
          rw [e]
          cases c : H D2 with
          | none => rfl
          | some u =>
            have := g1.all _ _ c
            rw [hD2] at this; cases this
  · rintro H1 ⟨rs, g1, h1, hl, hn, hno, hrow, hnew⟩
    have t0 : Tab H1 D rs n (fun y x => decide (y = x) || decide (((y : Int), (x : Int)) ∈ ws)) := ⟨h1, hl, hn, hno, hrow⟩
    have s0 : Stg ws n 0 (fun y x => decide (y = x) || decide (((y : Int), (x : Int)) ∈ ws)) := by
      refine ⟨fun y x _ _ e => ?_, fun y x _ _ v => ?_⟩
      · rw [Bool.or_eq_true, decide_eq_true_eq, decide_eq_true_eq] at e
        rcases e with rfl | e
        · exact .refl _
        · exact .one e
      · rw [Bool.or_eq_true, decide_eq_true_eq, decide_eq_true_eq]
        rcases via0 (fun u hu => ⟨(hw.mem u hu).1.1, (hw.mem u hu).2.1.1⟩) v (by omega) with e | e
        · exact .inl (by omega)
        · exact .inr e
    walk_at "ws"
    refine i_rng1 (by omega) (by omega) ?_
    rw [Int.toNat_natCast]
    refine for_it walk_range (fun i σ H' => ∃ f u v z, σ = [some (.int n), some (.ref q), u, v, some (.ref D), z] ∧ Tab H' D rs n f ∧ Stg ws n i f ∧ G none H H') ⟨_, _, _, _, rfl, t0, s0, g1⟩ (fun _ _ _ _ _ => trivial) ?_ ?_
    · rintro mid _ σ _ H2 hmid ⟨f0, u, v, z, rfl, t2, st0, g2⟩ ⟨rfl, rfl⟩
      walk_at "ws"
      refine i_rng1 (by omega) (by omega) ?_
      rw [Int.toNat_natCast]
      refine for_it walk_range (fun y σ H' => ∃ f u v, σ = [some (.int n), some (.ref q), u, v, some (.ref D), some (.int (0 + (mid : Int)))] ∧ Tab H' D rs n f ∧ Mid ws n mid f0 y 0 f ∧ G none H H') ⟨_, _, _, rfl, t2, st0.mid, g2⟩ (fun _ _ _ _ _ => trivial) ?_ ?_
      · rintro y _ σ _ H3 hy ⟨f, u, v, rfl, t3, md, g3⟩ ⟨rfl, rfl⟩
        walk_at "ws"
        refine i_rng1 (by omega) (by omega) ?_
        rw [Int.toNat_natCast]
        refine for_it walk_range (fun x σ H' => ∃ f v, σ = [some (.int n), some (.ref q), some (.int (0 + (y : Int))), v, some (.ref D), some (.int (0 + (mid : Int)))] ∧ Tab H' D rs n f ∧ Mid ws n mid f0 y x f ∧ G none H H') ⟨_, _, rfl, t3, md, g3⟩ (fun _ _ _ _ _ => trivial) ?_ ?_
        · rintro x _ σ _ H4 hx ⟨f, v, rfl, t4, md, g4⟩ ⟨rfl, rfl⟩
          obtain ⟨ry, hry, hrowy, _⟩ := t4.get hy
          obtain ⟨rm, hrm, hrowm, _⟩ := t4.get hmid
          have ey : (0 : Int) + (y : Int) = (y : Int) := by omega
          have ex : (0 : Int) + (x : Int) = (x : Int) := by omega
          have em : (0 : Int) + (mid : Int) = (mid : Int) := by omega
          have fin : ∀ b : Bool, b = (f y x || (f y mid && f mid x)) → ∃ f' v, ([some (.int n), some (.ref q), some (.int (0 + (y : Int))), some (.int (0 + (x : Int))), some (.ref D), some (.int (0 + (mid : Int)))] : L2.St) = [some (.int n), some (.ref q), some (.int (0 + (y : Int))), v, some (.ref D), some (.int (0 + (mid : Int)))] ∧ Tab (upd H4 ry (.lst ((rowV n (f y)).set x (.bl b)))) D rs n f' ∧ Mid ws n mid f0 y (x + 1) f' ∧ G none H (upd H4 ry (.lst ((rowV n (f y)).set x (.bl b)))) := by
            intro b hb
            subst hb
            exact ⟨_, _, rfl, t4.set hry, md.turn hmid hy hx, g4.mut (hnew ry (List.mem_of_getElem? hry)) (fun _ e => nomatch e)⟩
          have store : ∀ b : Bool, b = (f y x || (f y mid && f mid x)) → rSetL (.ref ry) (.int (0 + (x : Int))) (.bl b) H4 fun H' => ∃ f' v, ([some (.int n), some (.ref q), some (.int (0 + (y : Int))), some (.int (0 + (x : Int))), some (.ref D), some (.int (0 + (mid : Int)))] : L2.St) = [some (.int n), some (.ref q), some (.int (0 + (y : Int))), v, some (.ref D), some (.int (0 + (mid : Int)))] ∧ Tab H' D rs n f' ∧ Mid ws n mid f0 y (x + 1) f' ∧ G none H H' := by
            intro b hb
            refine ⟨ry, _, _, x, rfl, rfl, hrowy, ?_, fin b hb⟩
            rw [ex, rowV_len]
            unfold ixN
            rw [if_pos (by omega), if_pos (by omega)]
            simp
          walk_at "ws"
          refine r_ixL (SqL.of t4.top) (t4.at hry ey) ?_
          walk_at "ws"
          refine r_ixL (SqL.of hrowy) (row_at hx ex) ?_
          walk_at "ws"
          refine w_ite (fun e => ?_) (fun e => ?_)
          · walk_at "ws"
            refine r_ixL (SqL.of t4.top) (t4.at hry ey) ?_
            walk_at "ws"
            exact store true (by rw [e]; rfl)
          · walk_at "ws"
            refine r_ixL (SqL.of t4.top) (t4.at hry ey) ?_
            walk_at "ws"
            refine r_ixL (SqL.of hrowy) (row_at hmid em) ?_
            walk_at "ws"
            refine w_ite (fun e2 => ?_) (fun e2 => ?_)
            · walk_at "ws"
              refine r_ixL (SqL.of t4.top) (t4.at hrm em) ?_
              walk_at "ws"
              refine r_ixL (SqL.of hrowm) (row_at hx ex) ?_
              walk_at "ws"
              refine r_ixL (SqL.of t4.top) (t4.at hry ey) ?_
              walk_at "ws"
              exact store _ (by rw [e, e2]; simp)
            · walk_at "ws"
              refine r_ixL (SqL.of t4.top) (t4.at hry ey) ?_
              walk_at "ws"
              exact store false (by rw [e, e2]; rfl)
        · rintro σ H4 ⟨f, v, rfl, t4, md, g4⟩
          exact ⟨_, _, _, rfl, t4, md.row, g4⟩
      · rintro σ H4 ⟨f, u, v, rfl, t4, md, g4⟩
        exact ⟨_, _, _, _, rfl, t4, md.stg st0 hmid, g4⟩
    · rintro σ H4 ⟨f, u, v, z, rfl, t4, st, g4⟩
      walk_at "ws"
      refine k D rs f _ g4 t4 fun y x hy hx => ⟨st.sound y x hy hx, fun r => st.full y x hy hx (r.via fun u hu => ?_)⟩
      have := hw.mem u hu
      omega

end
end Mine
/-! ## K9 -/


namespace Mine
section
variable {P : Program} {w : World} {K : PySem.W.Frag} {mg : Str → Option Value} {base : Heap} {a : Ads}

/-! ### webs made of others -/
theorem ltW_ltP : ∀ {ws : List (Int × Int)}, ws.Pairwise ltW → ws.Pairwise ltP := fun h => h
def sp_web_of_any_size (K : PySem.W.Frag) (C : Addr) : Sp := fun vs H Q _ => ∃ (m : Int) (l : Addr) (xs : List V) (us : List (Int × Int)), vs = [.int m, .ref l] ∧ SqL K H l xs ∧ DpAll K H xs (us.map dP) ∧ us.length < 64 ∧ (∀ u ∈ us, in64 u) ∧
  ∀ x (ws : List (Int × Int)) H', H x = none → G none H H' → WebAt K C H' x m ws → ws.Pairwise ltP → (∀ u, u ∈ ws ↔ u ∈ us) → Q (.ref x) H'
theorem ok_web_of_any_size (T : Txt K mg a) : FnOk P w K mg base CX0 9 a.f_web_of_any_size a.d_web_of_any_size P_web_of_any_size (sp_web_of_any_size K a.c_Web) := by
  refine T.F_web_of_any_size.ok sc_web_of_any_size (fun vs H Q E h => by obtain ⟨m, l, xs, us, rfl, _⟩ := h; rfl) (fun cdv A outer s H vs Q E hr h => ?_)
  obtain ⟨m, l, xs, us, rfl, hl, hd, hz, hb, k⟩ := h
  have G_Web_init : FnOk P w K mg base CX0 7 a.f_Web_init a.d_Web_init P_Web_init (sp_Web_init K a.c_Web) := ok_Web_init T
  refine ⟨_, (pss_cons (ps_set (i := 2) sc_web_of_any_size.nd rfl (Or.inl rfl) (pe_make T.K_Web (G_Web_init) (hr.mono (by omega)) rfl T.m_Web T.b_Web_init .nil pass0 (pa_cons pe_int (pa_cons (pe_tupN pa_nil) pa_nil))))
  (pss_cons (ps_fld (pv 2) (pv 0) rfl)
  (pss_cons (ps_fld (pv 2) (pe_callTy call_tupleN (by rfl) T.n_tuple (by decide +kernel) (pa_cons (pe_callB (cr_sortSN rfl) (by rfl) T.n_sorted (by decide +kernel) (pa_cons (pe_callTy (cr_setPN rfl hr.units) (by rfl) T.n_set (by decide +kernel) (pa_cons (pv 1) pa_nil)) pa_nil)) pa_nil)) rfl)
  (pss_one (ps_ret (pv 2)))))), ?_⟩
  walk_at "ws"
  refine ⟨sz (by simp), fun t H1 ht g1 h1 => ?_⟩
  walk_at "ws"
  intro x dx hx hdx nex
  have hxi : (upd (upd H1 dx (.own x)) x (.ins a.c_Web dx [])) x = some (.ins a.c_Web dx []) := upd_same
  have g12 : G none H1 (upd (upd H1 dx (.own x)) x (.ins a.c_Web dx [])) := (G.alloc hdx).trans (G.alloc (by rw [upd_ne (Ne.symm nex)]; exact hx))
  refine ⟨x, dx, 1, t, [], rfl, hxi, .tup (SqT.of (g12.all _ _ h1)) .nil, ⟨by decide, by decide, (fun _ h => nomatch h), .nil⟩, fun H2 k2 t2 h2 => ⟨rfl, ?_⟩⟩
  have hx0 : H x = none := by
    cases c : H x with
    | none => rfl
    | some u => rw [(g1 none).all _ _ c] at hx; cases hx
  have g02 : G none H H2 := by
    refine (g1 none).trans (G.of_all fun b u e => ?_)
    exact k2 b u (ne_of_none e hx) (g12.all _ _ e)
  walk_at "ws"
  refine r_sfld h2 T.cl_Web T.na_Web_machines (by show 2 < 1000; decide) ?_
  rw [put_m]
  have h3 : (upd H2 x (.ins a.c_Web dx (wf (.int m) (.ref t)))) x = some (.ins a.c_Web dx (wf (.int m) (.ref t))) := upd_same
  have g03 : G none H (upd H2 x (.ins a.c_Web dx (wf (.int m) (.ref t)))) := g02.mut hx0 (fun _ e => nomatch e)
  generalize upd H2 x (.ins a.c_Web dx (wf (.int m) (.ref t))) = H3 at h3 g03 ⊢
  walk_at "ws"
  refine ⟨l, xs, us, rfl, sqL_n g03 hl, (dp_n g03).2 _ _ hd, hz, fun s1 L H4 hs1 g4 h4 hL hm => ?_⟩
  walk_at "ws"
  refine ⟨s1, L, us, rfl, h4, hL, hm, hb, fun ws asc mem few p H5 ys hp g5 h5 hys => ?_⟩
  walk_at "ws"
  refine ⟨p, ys, rfl, .inl ⟨SqL.of h5, fun q H6 hq g6 h6 => ?_⟩⟩
  walk_at "ws"
  have g36 := ((g4 none).trans (g5 none)).trans (g6 none)
  have h36 := g36.all _ _ h3
  refine r_sfld h36 T.cl_Web T.na_Web_wires (by show 2 < 1000; decide) ?_
  rw [put_w]
  walk_at "ws"
  refine k x ws _ hx0 ((g03.trans g36).mut hx0 (fun _ e => nomatch e)) ⟨dx, q, upd_same, ?_⟩ (ltW_ltP asc) mem
  have t6 : Ts H6 (upd H6 x (.ins a.c_Web dx (wf (.int m) (.ref q)))) := ts_updI h36
  exact .tup (sqT_t t6 (SqT.of h6)) (dpAll_t (((g6 none).tups).trans t6) _ _ (nls_pairs ws) hys)

theorem pw_le_range {n : Nat} {l : List Int} (hl : ∀ x : Int, x ∈ l ↔ 0 ≤ x ∧ x < n) (hn : l.Nodup) (hp : l.Pairwise (· ≤ ·)) : l = (List.range n).map fun i => ((i : Nat) : Int) := by
  have h1 : l.Perm ((List.range n).map fun i => ((i : Nat) : Int)) := by
    refine (List.perm_ext_iff_of_nodup hn ?_).mpr fun x => ?_
    · have : (List.range n).Pairwise (· < ·) := List.pairwise_lt_range
      exact (List.pairwise_map.mpr (this.imp fun h e => by omega))
    · rw [hl, List.mem_map]
      constructor
      · intro h
        exact ⟨x.toNat, List.mem_range.mpr (by omega), by omega⟩
      · rintro ⟨i, hi, rfl⟩
        have := List.mem_range.mp hi
        omega
  have h2 : ((List.range n).map fun i => ((i : Nat) : Int)).Pairwise (· ≤ ·) := List.pairwise_map.mpr ((List.pairwise_lt_range (n := n)).imp fun h => by omega)
  exact h1.eq_of_pairwise (fun a b _ _ h1 h2 => Int.le_antisymm h1 h2) hp h2
/-- a tuple of all machines, each once -/
structure IsOrd (m : Int) (os : List Int) : Prop where
  pos : 0 ≤ m
  small : m ≤ 100
  nd : os.Nodup
  mem : ∀ x, x ∈ os ↔ 0 ≤ x ∧ x < m
def sp_is_order (K : PySem.W.Frag) : Sp := fun vs H Q _ => ∃ (m : Int) (p : Addr) (os : List Int), vs = [.int m, .ref p] ∧ Dp K H (.ref p) (dI os) ∧ IsOrd m os ∧ ∀ H', G none H H' → Q (.bl true) H'
theorem IsOrd.len {m : Int} {os : List Int} (h : IsOrd m os) : os.length ≤ 1000 := by
  have := List.Nodup.length_le_of_subset (l₂ := (List.range 1000).map fun i => ((i : Nat) : Int)) h.nd fun x hx => by
    have := (h.mem x).mp hx
    have := h.small
    exact List.mem_map.mpr ⟨x.toNat, List.mem_range.mpr (by omega), by omega⟩
  simpa using this
theorem ok_is_order (T : Txt K mg a) : FnOk P w K mg base CX0 5 a.f_is_order a.d_is_order P_is_order (sp_is_order K) := by
  refine T.F_is_order.ok sc_is_order (fun vs H Q E h => by obtain ⟨m, p, os, rfl, _⟩ := h; rfl) (fun cdv A outer s H vs Q E hr h => ?_)
  obtain ⟨m, p, os, rfl, hx, ho, k⟩ := h
  have G_are_below : FnOk P w K mg base CX0 4 a.f_are_below a.d_are_below P_are_below (sp_are_below K) := ok_are_below T
  obtain ⟨p', e, hxs⟩ := dp_dI hx
  cases e
  have m0 := ho.pos
  have m1 := ho.small
  refine ⟨_, (pss_cons (ps_if (L2.PW.pt (pw_or (pt_not (pt_val (pe_callB call_isi (by rfl) T.n_isinstance (by decide +kernel) (pa_cons (pv 1) (pa_cons (pe_bltn (v := .ty "tuple") (u := .type "tuple") rfl T.n_tuple (by decide +kernel) rfl) pa_nil))))) (pw_or1 (pt_not (pt_val (pe_call (G_are_below) (hr.mono (by omega)) rfl T.m_are_below T.F_are_below.kp T.b_are_below .nil pass0 (pa_cons (pv 0) (pa_cons (pv 1) pa_nil))))))))
    (pss_one (ps_ret pe_bl))
    pss_nil)
  (pss_one (ps_ret (pe_cmpR (op_eqD hr.units) (pe_callB cr_sortedIT (by rfl) T.n_sorted (by decide +kernel) (pa_cons (pv 1) pa_nil)) (pe_listRgN rfl (by rfl) T.n_list (prg_1 (by rfl) T.n_range (pv 0)) (mo_rg1 mo_var)) (nomark _))))), ?_⟩
  walk_at "ws"
  refine r_isi (tyx_tup hxs) ki_tt ?_
  walk_at "ws"
  refine ⟨m, p, os, rfl, hxs, by have := ho.len; omega, fun H1 g1 => ?_⟩
  have e1 : os.all (inB m) = true := by
    rw [List.all_eq_true]
    intro x hx
    have := (ho.mem x).mp hx
    simp only [inB, Bool.and_eq_true, decide_eq_true_eq]
    exact this
  rw [e1]
  walk_at "ws"
  refine ⟨p, os, rfl, sqT_t g1.tups hxs, fun ns pm pw q H2 hq g2 h2 => ?_⟩
  refine w_lstRg (w_rg1 ?_)
  walk_at "ws"
  refine ⟨RgOk.of_le (by decide) (by omega) (by decide) (by omega), fun r H3 hr g3 h3 => ?_⟩
  have e2 : ns = (List.range m.toNat).map fun i => ((i : Nat) : Int) := pw_le_range (fun x => by
    rw [pm.mem_iff, ho.mem]
    omega) (pm.nodup_iff.mpr ho.nd) pw
  have e3 : rgV 0 m = ns.map V.int := by
    rw [e2]
    unfold rgV
    rw [List.map_map, Int.sub_zero]
    refine List.map_congr_left fun i _ => ?_
    show V.int (0 + ((i : Nat) : Int)) = V.int ((i : Nat) : Int)
    rw [Int.zero_add]
  rw [e3] at h3
  have sh : SeqAt.shaped (.list (ns.map PyData.int)) = true := sh_of (by
    rw [PyData.canLay0]
    exact canAll fun d h => by
      obtain ⟨n, _, rfl⟩ := List.mem_map.mp h
      exact can_int) (by
    rw [PyData.depth]
    have := depAll (n := 0) (ds := ns.map PyData.int) fun d h => by
      obtain ⟨n, _, rfl⟩ := List.mem_map.mp h
      rw [dep_int]; exact Nat.le_refl _
    omega)
  refine ⟨.list (ns.map PyData.int), .list (ns.map PyData.int), .lst (SqL.of ((g3 none).all _ _ h2)) (DpAll.ints ns), .lst (SqL.of h3) (DpAll.ints ns), sh, sh, ?_⟩
  have e4 : PyData.eqv (.list (ns.map PyData.int)) (.list (ns.map PyData.int)) = true := by
    rw [PyData.eqv, eqvAll_map (fun _ _ => eqv_int)]; simp
  rw [e4]
  exact k _ ((g1.trans (g2 none)).trans (g3 none))

def sp_renamed (K : PySem.W.Frag) (C : Addr) : Sp := fun vs H Q _ => ∃ (x : Addr) (p : Addr) (m : Int) (ws : List (Int × Int)) (os : List Int), vs = [.ref x, .ref p] ∧ WebAt K C H x m ws ∧ IsWeb m ws ∧ Dp K H (.ref p) (dI os) ∧ IsOrd m os ∧
  ∀ y (ws' : List (Int × Int)) H', H y = none → G none H H' → WebAt K C H' y m ws' → IsWeb m ws' → (∀ u, u ∈ ws' ↔ ∃ v ∈ ws, u = (os.getD v.1.toNat 0, os.getD v.2.toNat 0)) → Q (.ref y) H'
theorem ord_at {m : Int} {os : List Int} (h : IsOrd m os) {i : Int} (h0 : 0 ≤ i) (h1 : i < m) : atI (os.map V.int) i = some (.int (os.getD i.toNat 0)) ∧ (0 ≤ os.getD i.toNat 0 ∧ os.getD i.toNat 0 < m) ∧ i.toNat < os.length := by
  have hl : (m.toNat) ≤ os.length := by
    have h2 := List.Nodup.length_le_of_subset (l₁ := (List.range m.toNat).map fun i => ((i : Nat) : Int)) (l₂ := os) (List.pairwise_map.mpr ((List.pairwise_lt_range (n := m.toNat)).imp fun h e => by omega)) fun x hx => by
      obtain ⟨i, hi, rfl⟩ := List.mem_map.mp hx
      have := List.mem_range.mp hi
      rw [h.mem]; omega
    simpa using h2
  have hi : i.toNat < os.length := by omega
  have e : os[i.toNat]? = some (os.getD i.toNat 0) := by rw [List.getD_eq_getElem?_getD, List.getElem?_eq_getElem hi]; rfl
  exact ⟨at_of (j := i.toNat) (by omega) (by rw [List.getElem?_map, e]; rfl), (h.mem _).mp (List.mem_of_getElem? e), hi⟩
theorem isweb_len {m : Int} {ws : List (Int × Int)} (h : IsWeb m ws) : ws.length < 64 := by
  have hn : (ws.map fun u => (u.1 * 7 + u.2).toNat).Nodup := by
    have : (ws.map fun u => (u.1 * 7 + u.2).toNat).Pairwise (· < ·) := by
      rw [List.pairwise_map]
      refine List.Pairwise.imp_of_mem (fun {u v} hu hv huv => ?_) h.asc
      have h1 := h.mem u hu
      have h2 := h.mem v hv
      have := h.hi
      unfold ltP at huv
      omega
    exact this.imp fun h => Nat.ne_of_lt h
  have := List.Nodup.length_le_of_subset (l₂ := List.range 63) hn fun k hk => by
    obtain ⟨u, hu, rfl⟩ := List.mem_map.mp hk
    have h1 := h.mem u hu
    have := h.hi
    rw [List.mem_range]
    omega
  have : ws.length ≤ 63 := by simpa using this
  omega
theorem ok_renamed (T : Txt K mg a) : FnOk P w K mg base CX0 10 a.f_renamed a.d_renamed P_renamed (sp_renamed K a.c_Web) := by
  refine T.F_renamed.ok sc_renamed (fun vs H Q E h => by obtain ⟨x, p, m, ws, os, rfl, _⟩ := h; rfl) (fun cdv A outer s H vs Q E hr h => ?_)
  obtain ⟨x, p, m, ws, os, rfl, hx, hw, hp, ho, k⟩ := h
  have G_is_order : FnOk P w K mg base CX0 5 a.f_is_order a.d_is_order P_is_order (sp_is_order K) := ok_is_order T
  have G_web_of_any_size : FnOk P w K mg base CX0 9 a.f_web_of_any_size a.d_web_of_any_size P_web_of_any_size (sp_web_of_any_size K a.c_Web) := ok_web_of_any_size T
  obtain ⟨p', e, hps⟩ := dp_dI hp
  cases e
  have hlen := isweb_len hw
  have hm := hw.hi
  refine ⟨_, (pss_cons (ps_if (pt_not (pt_val (pe_call (G_is_order) (hr.mono (by omega)) rfl T.m_is_order T.F_is_order.kp T.b_is_order .nil pass0 (pa_cons (pe_fld (pv 0) rfl) (pa_cons (pv 1) pa_nil)))))
    pss_never
    pss_nil)
  (pss_one (ps_ret (pe_call (G_web_of_any_size) (hr.mono (by omega)) rfl T.m_web_of_any_size T.F_web_of_any_size.kp T.b_web_of_any_size .nil pass0 (pa_cons (pe_fld (pv 0) rfl) (pa_cons (pe_lc (own := [("y", 2), ("x", 3)]) (g := (gTup K 2 (gCons (gName 2) (gCons (gName 3) gNil)))) (tt := tYes) rfl sc_renamed.nd (pi_tup (pe_fld (pv 0) rfl)) (blkOk_by (N := N_renamed) (sc := defScope s_renamed) (by decide +kernel)) (fun _ _ _ _ _ => (pg_tup rfl (pgs_cons (pg_name (i := 2) sc_renamed.nd rfl (by first | exact Or.inl rfl | exact Or.inr rfl)) (pgs_cons (pg_name (i := 3) sc_renamed.nd rfl (by first | exact Or.inl rfl | exact Or.inr rfl)) pgs_nil)))) (fun _ _ _ _ _ => pts_nil) (fun _ _ _ _ _ => (pe_tupN (pa_cons (pe_ix (k_ix_tup K) (pv 1) (pv 2) (fun _ _ => rfl)) (pa_cons (pe_ix (k_ix_tup K) (pv 1) (pv 3) (fun _ _ => rfl)) pa_nil))))) pa_nil)))))), ?_⟩
  walk_at "ws"
  obtain ⟨dx, wa, hxi, hwa⟩ := id hx
  refine r_fld hxi T.cl_Web T.na_Web_machines (wf_m _ _) ?_
  walk_at "ws"
  refine ⟨m, p, os, rfl, hp, ho, fun H1 g1 => ?_⟩
  walk_at "ws"
  refine r_fld (g1.all _ _ hxi) T.cl_Web T.na_Web_machines (wf_m _ _) ?_
  walk_at "ws"
  refine r_fld (g1.all _ _ hxi) T.cl_Web T.na_Web_wires (wf_w _ _) ?_
  obtain ⟨wa', vs, e, hvs, hds⟩ := dp_tup ((dp_n g1).1 _ _ hwa)
  cases e
  refine i_tup hvs ?_
  intro D hD
  have hvl : vs.length = ws.length := by rw [DpAll.length hds, List.length_map]
  refine lc_pure (K := K) (o := none) (walk_tup (xs := vs)) (by omega) hD (fun _ e => nomatch e) (fun i => ws[i]?.map fun v => dP (os.getD v.1.toNat 0, os.getD v.2.toNat 0)) (fun H' g => sqT_t g.tups hvs) ?_ ?_
  · rintro i y _ H2 hi g2 ⟨rfl, hy⟩ Qy Qn ky kn
    obtain ⟨d, hd, hyd⟩ := DpAll.get hds hy
    rw [List.getElem?_map] at hd
    obtain ⟨u, hu, rfl⟩ := Option.map_eq_some_iff.mp hd
    obtain ⟨t, rfl, ht⟩ := dp_dP hyd
    have um := hw.mem u (List.mem_of_getElem? hu)
    obtain ⟨a1, a2, _⟩ := ord_at ho um.1.1 um.1.2
    obtain ⟨b1, b2, _⟩ := ord_at ho um.2.1.1 um.2.1.2
    have g02 := g1.trans g2
    refine ⟨t, _, rfl, sqT_t g2.tups ht, rfl, ?_⟩
    refine ⟨_, _, rfl, ?_⟩
    walk_at "ws"
    refine ⟨_, _, rfl, ?_⟩
    walk_at "ws"
    refine ⟨rfl, rfl, ?_⟩
    walk_at "ws"
    refine r_ixT (sqT_t g02.tups hps) a1 ?_
    walk_at "ws"
    refine r_ixT (sqT_t g02.tups hps) b1 ?_
    walk_at "ws"
    refine ⟨sz (by simp), fun q H3 hq g3 h3 => ?_⟩
    exact ky _ _ _ (g3 none) (dp_ofP (SqT.of h3)) (nl_dP _) (by rw [hu]; rfl)
  · intro xs H2 g2 hD' hds' _
    rw [hvl, filterMap_range_map] at hds'
    walk_at "ws"
    have e1 : (ws.map fun v => dP (os.getD v.1.toNat 0, os.getD v.2.toNat 0)) = (ws.map fun v => (os.getD v.1.toNat 0, os.getD v.2.toNat 0)).map dP := by rw [List.map_map]; rfl
    rw [e1] at hds'
    have g02 := g1.trans g2
    refine ⟨m, D, xs, _, rfl, SqL.of hD', hds', by rw [List.length_map]; exact hlen, fun u hu => ?_, fun y ws' H3 hy g3 hwy asc mem => ?_⟩
    · obtain ⟨v, hv, rfl⟩ := List.mem_map.mp hu
      have um := hw.mem v hv
      obtain ⟨_, a2, _⟩ := ord_at ho um.1.1 um.1.2
      obtain ⟨_, b2, _⟩ := ord_at ho um.2.1.1 um.2.1.2
      exact ⟨⟨a2.1, by show _ < (64 : Int); omega⟩, b2.1, by show _ < (64 : Int); omega⟩
    · have mem' : ∀ u, u ∈ ws' ↔ ∃ v ∈ ws, u = (os.getD v.1.toNat 0, os.getD v.2.toNat 0) := fun u => by
        rw [mem, List.mem_map]
        exact ⟨fun ⟨v, a, b⟩ => ⟨v, a, b.symm⟩, fun ⟨v, a, b⟩ => ⟨v, a, b.symm⟩⟩
      have hy0 : H y = none := by
        cases c : H y with
        | none => rfl
        | some u => rw [g02.all _ _ c] at hy; cases hy
      refine k y ws' H3 hy0 (g02.trans g3) hwy ⟨hw.lo, hw.hi, fun u hu => ?_, asc⟩ mem'
      obtain ⟨v, hv, rfl⟩ := (mem' u).mp hu
      have um := hw.mem v hv
      obtain ⟨_, a2, al⟩ := ord_at ho um.1.1 um.1.2
      obtain ⟨_, b2, bl⟩ := ord_at ho um.2.1.1 um.2.1.2
      refine ⟨a2, b2, fun e => um.2.2 ?_⟩
      have e : os.getD v.1.toNat 0 = os.getD v.2.toNat 0 := e
      rw [List.getD_eq_getElem?_getD, List.getD_eq_getElem?_getD, List.getElem?_eq_getElem al, List.getElem?_eq_getElem bl] at e
      have := (List.getElem_inj ho.nd).mp (show os[v.1.toNat] = os[v.2.toNat] from e)
      omega

end
end Mine
/-! ## K9b -/


namespace Mine
section
variable {P : Program} {w : World} {K : PySem.W.Frag} {mg : Str → Option Value} {base : Heap} {a : Ads}

/-! ### ways_from -/
def outs (us : List (Int × Int)) (y : Int) : List Int := (us.filter fun u => decide (u.1 = y)).map (·.2)
theorem outs_snoc (us : List (Int × Int)) (u : Int × Int) (y : Int) : outs (us ++ [u]) y = outs us y ++ (if u.1 = y then [u.2] else []) := by
  unfold outs
  rw [List.filter_append, List.map_append]
  congr 1
  by_cases c : u.1 = y <;> simp [c]
theorem outs_mem {us : List (Int × Int)} {y x : Int} : x ∈ outs us y ↔ (y, x) ∈ us := by
  unfold outs
  rw [List.mem_map]
  constructor
  · rintro ⟨u, hu, rfl⟩
    obtain ⟨h1, h2⟩ := List.mem_filter.mp hu
    have e : u.1 = y := of_decide_eq_true h2
    have : u = (y, u.2) := Prod.ext e rfl
    rw [← this]; exact h1
  · intro h
    exact ⟨(y, x), List.mem_filter.mpr ⟨h, decide_eq_true rfl⟩, rfl⟩
abbrev kvO (ps : List (Int × Addr)) : List (Key × V) := ps.map fun p => ((Sum.inl p.1 : Key), V.ref p.2)
theorem kvO_in : ∀ {ps : List (Int × Addr)} {p : Int × Addr}, (ps.map (·.1)).Nodup → p ∈ ps → valV (kvO ps) (Sum.inl p.1) = some (.ref p.2)
  | [], _, _, h => nomatch h
  | q :: ps, p, nd, h => by
    rw [List.map_cons, List.nodup_cons] at nd
    rcases List.mem_cons.mp h with e | h
    · subst e; exact valV_pos rfl
    · refine (valV_neg fun z => ?_).trans (kvO_in nd.2 h)
      have e : q.1 = p.1 := Sum.inl.inj z
      exact nd.1 (e ▸ List.mem_map_of_mem h)
theorem kvO_out {ps : List (Int × Addr)} {y : Int} (h : ∀ p ∈ ps, p.1 ≠ y) : valV (kvO ps) (Sum.inl y) = none := by
  induction ps with
  | nil => rfl
  | cons q ps ih => exact (valV_neg fun z => h q List.mem_cons_self (Sum.inl.inj z)).trans (ih fun p hp => h p (List.mem_cons_of_mem _ hp))
theorem kv_any {kvs : List (Key × V)} {ks : List Int} (h : kvs.map (·.1) = ks.map Sum.inl) (z : Int) : (kvs.any fun kv => decide (kv.1 = (Sum.inl z : Key))) = decide (z ∈ ks) := by
  have e : (kvs.any fun kv => decide (kv.1 = (Sum.inl z : Key))) = (kvs.map (·.1)).any fun k => decide (k = (Sum.inl z : Key)) := by rw [List.any_map]; rfl
  rw [e, h, List.any_map, Bool.eq_iff_iff, List.any_eq_true, decide_eq_true_iff]
  constructor
  · rintro ⟨k, hk, q⟩
    have q : (Sum.inl k : Key) = Sum.inl z := of_decide_eq_true q
    exact Sum.inl.inj q ▸ hk
  · intro hz
    exact ⟨z, hz, decide_eq_true rfl⟩
theorem kv_put {kvs : List (Key × V)} {ks : List Int} (h : kvs.map (·.1) = ks.map Sum.inl) {z : Int} (hz : z ∉ ks) (v : V) : putK kvs (Sum.inl z) v = kvs ++ [((Sum.inl z : Key), v)] := by
  unfold putK
  rw [kv_any h, if_neg (by simpa using hz)]
theorem new_bk {H0 H1 : Hp} {D : Addr} (g : G none H0 H1) (h : H1 D = none) : H0 D = none := by
  cases e : H0 D with
  | none => rfl
  | some u => rw [g.all _ _ e] at h; cases h
theorem w_dsetd {td ty tx : TE} {σ : L2.St} {H : Hp} {Q : VK} (q : td σ H fun x H1 => ∃ a, x = .ref a ∧ IsD H1 a ∧ ty σ H1 fun y H2 => tx σ H2 fun z H3 => ∃ (kvs : List (Key × V)) (k : Key), H3 a = some (.dK kvs) ∧ y = kV k ∧ kvs.length < sizeLine ∧ (∀ v, valV kvs k = some v → Q v H3) ∧ (valV kvs k = none → Q z (upd H3 a (.dK (putK kvs k z))))) : tDSetd td ty tx σ H Q := q
theorem w_dget2 {td ty tx : TE} {σ : L2.St} {H : Hp} {Q : VK} (q : td σ H fun x H1 => ∃ a, x = .ref a ∧ IsD H1 a ∧ ty σ H1 fun y H2 => tx σ H2 fun z H3 => ∃ o, DGet H3 a y o ∧ Q (o.getD z) H3) : tDGet2 td ty tx σ H Q := q
theorem w_aug {i : Nat} {te : TE} {ti : TIp} {D : Ends} {σ : L2.St} {H : Hp} (q : ∃ x, σ[i]? = some (some x) ∧ te σ H fun y H1 => ti x y H1 fun z H2 => D.nx (σ.set i (some z)) H2) : tAug i te ti D σ H := q
/-- where each machine's wires lead, as lists in a dict -/
structure On (H0 H : Hp) (od : Addr) (ps : List (Int × Addr)) (us : List (Int × Int)) : Prop where
  d : H od = some (.dK (kvO ps))
  nk : (ps.map (·.1)).Nodup
  na : (ps.map (·.2)).Nodup
  l : ∀ p ∈ ps, H p.2 = some (.lst ((outs us p.1).map V.int)) ∧ H0 p.2 = none
  all : ∀ u ∈ us, ∃ p ∈ ps, p.1 = u.1
theorem On.keep {H0 H H' : Hp} {od : Addr} {ps : List (Int × Addr)} {us : List (Int × Int)} (o : On H0 H od ps us) (k : ∀ b u, (b = od ∨ ∃ p ∈ ps, b = p.2) → H b = some u → H' b = some u) : On H0 H' od ps us :=
  ⟨k _ _ (.inl rfl) o.d, o.nk, o.na, fun p hp => ⟨k _ _ (.inr ⟨p, hp, rfl⟩) (o.l p hp).1, (o.l p hp).2⟩, o.all⟩
theorem On.none_ {H0 H : Hp} {od : Addr} {ps : List (Int × Addr)} {us : List (Int × Int)} (o : On H0 H od ps us) {y : Int} (h : ∀ p ∈ ps, p.1 ≠ y) : outs us y = [] := by
  refine List.eq_nil_iff_forall_not_mem.mpr fun x hx => ?_
  obtain ⟨p, hp, e⟩ := o.all _ (outs_mem.mp hx)
  exact h p hp e
theorem snd_inj {ps : List (Int × Addr)} (na : (ps.map (·.2)).Nodup) {p q : Int × Addr} (hp : p ∈ ps) (hq : q ∈ ps) (e : p.2 = q.2) : p = q := by
  induction ps with
  | nil => nomatch hp
  | cons r ps ih =>
    rw [List.map_cons, List.nodup_cons] at na
    rcases List.mem_cons.mp hp with e1 | hp
    · rcases List.mem_cons.mp hq with e2 | hq
      · rw [e1, e2]
      · rw [e1] at e; exact absurd (e ▸ List.mem_map_of_mem hq) na.1
    · rcases List.mem_cons.mp hq with e2 | hq
      · rw [e2] at e; exact absurd (e ▸ List.mem_map_of_mem hp) na.1
      · exact ih na.2 hp hq
theorem fst_inj {ps : List (Int × Addr)} (na : (ps.map (·.1)).Nodup) {p q : Int × Addr} (hp : p ∈ ps) (hq : q ∈ ps) (e : p.1 = q.1) : p = q := by
  induction ps with
  | nil => nomatch hp
  | cons r ps ih =>
    rw [List.map_cons, List.nodup_cons] at na
    rcases List.mem_cons.mp hp with e1 | hp
    · rcases List.mem_cons.mp hq with e2 | hq
      · rw [e1, e2]
      · rw [e1] at e; exact absurd (e ▸ List.mem_map_of_mem hq) na.1
    · rcases List.mem_cons.mp hq with e2 | hq
      · rw [e2] at e; exact absurd (e ▸ List.mem_map_of_mem hp) na.1
      · exact ih na.2 hp hq
/-- one wire more, its machine known -/
theorem On.more {H0 H : Hp} {od : Addr} {ps : List (Int × Addr)} {us : List (Int × Int)} (o : On H0 H od ps us) {p : Int × Addr} (hp : p ∈ ps) (x : Int) : On H0 (upd H p.2 (.lst ((outs us p.1).map V.int ++ [.int x]))) od ps (us ++ [(p.1, x)]) := by
  have n0 : od ≠ p.2 := ne_of o.d (o.l p hp).1 (by intro z; cases z)
  refine ⟨by rw [upd_ne n0]; exact o.d, o.nk, o.na, fun q hq => ⟨?_, (o.l q hq).2⟩, fun u hu => ?_⟩
  · rw [outs_snoc]
    by_cases c : q = p
    · subst c
      rw [upd_same, if_pos rfl, List.map_append]; rfl
    · have n1 : q.2 ≠ p.2 := fun e => c (snd_inj o.na hq hp e)
      have n2 : ¬ p.1 = q.1 := fun e => c (fst_inj o.nk hq hp e.symm)
      rw [upd_ne n1, if_neg n2, List.append_nil]
      exact (o.l q hq).1
  · rcases List.mem_append.mp hu with h | h
    · exact o.all u h
    · have e : u = (p.1, x) := by simpa using h
      subst e; exact ⟨p, hp, rfl⟩
/-- one wire more, its machine new -/
theorem On.new {H0 H : Hp} {od l : Addr} {ps : List (Int × Addr)} {us : List (Int × Int)} (o : On H0 H od ps us) {y : Int} (hy : ∀ p ∈ ps, p.1 ≠ y) (hl : H l = some (.lst [])) (h0 : H0 l = none) (nl : ∀ p ∈ ps, p.2 ≠ l) (x : Int) :
    On H0 (upd (upd H od (.dK (kvO ps ++ [((Sum.inl y : Key), V.ref l)]))) l (.lst ([] ++ [.int x]))) od (ps ++ [(y, l)]) (us ++ [(y, x)]) := by
  have n0 : od ≠ l := ne_of o.d hl (by intro z; cases z)
  refine ⟨by rw [upd_ne n0, upd_same]; unfold kvO; rw [List.map_append]; rfl, ?_, ?_, fun q hq => ?_, fun u hu => ?_⟩
  · rw [List.map_append, List.nodup_append]
    refine ⟨o.nk, by simp, fun a ha b hb e => ?_⟩
    have eb : b = y := by simpa using hb
    obtain ⟨p, hp, e2⟩ := List.mem_map.mp ha
    exact hy p hp (by rw [e2, e, eb])
  · rw [List.map_append, List.nodup_append]
    refine ⟨o.na, by simp, fun a ha b hb e => ?_⟩
    have eb : b = l := by simpa using hb
    obtain ⟨p, hp, e2⟩ := List.mem_map.mp ha
    exact nl p hp (by rw [e2, e, eb])
  · rw [outs_snoc]
    rcases List.mem_append.mp hq with h | h
    · have n1 : q.2 ≠ od := (ne_of o.d (o.l q h).1 (by intro z; cases z)).symm
      have n2 : ¬ y = q.1 := fun e => hy q h e.symm
      rw [upd_ne (nl q h), upd_ne n1, if_neg n2, List.append_nil]
      exact o.l q h
    · have e : q = (y, l) := by simpa using h
      subst e
      rw [upd_same, if_pos rfl, o.none_ hy]
      exact ⟨rfl, h0⟩
  · rcases List.mem_append.mp hu with h | h
    · obtain ⟨p, hp, e⟩ := o.all u h
      exact ⟨p, List.mem_append_left _ hp, e⟩
    · have e : u = (y, x) := by simpa using h
      subst e; exact ⟨(y, l), List.mem_append_right _ (by simp), rfl⟩
theorem ps_few {ps : List (Int × Addr)} {m : Int} (nk : (ps.map (·.1)).Nodup) (h : ∀ p ∈ ps, 0 ≤ p.1 ∧ p.1 < m) (hm : m ≤ 60) : ps.length ≤ 60 := by
  have := List.Nodup.length_le_of_subset (l₂ := (List.range 60).map fun (i : Nat) => (i : Int)) nk fun k hk => by
    obtain ⟨p, hp, rfl⟩ := List.mem_map.mp hk
    have := h p hp
    exact List.mem_map.mpr ⟨p.1.toNat, List.mem_range.mpr (by omega), by omega⟩
  simpa using this
/-- what is found on the way -/
structure Way (m : Int) (us : List (Int × Int)) (y : Int) (qs : List Int) (n : Nat) : Prop where
  nd : qs.Nodup
  rng : ∀ k ∈ qs, 0 ≤ k ∧ k < m
  reach : ∀ k ∈ qs, Reach us y k
  begin_ : y ∈ qs
  le : n ≤ qs.length
  shut : ∀ (i : Nat) (k : Int), i < n → qs[i]? = some k → ∀ z, (k, z) ∈ us → z ∈ qs
theorem Way.few {m : Int} {us : List (Int × Int)} {y : Int} {qs : List Int} {n : Nat} (w : Way m us y qs n) : (qs.length : Int) ≤ m := by
  have hm : 0 ≤ m := by have := w.rng _ w.begin_; omega
  have := List.Nodup.length_le_of_subset (l₂ := (List.range m.toNat).map fun (i : Nat) => (i : Int)) w.nd fun k hk => by
    have := w.rng k hk
    exact List.mem_map.mpr ⟨k.toNat, List.mem_range.mpr (by omega), by omega⟩
  simp at this
  omega
theorem Way.all {m : Int} {us : List (Int × Int)} {y : Int} {qs : List Int} {n : Nat} (w : Way m us y qs n) (e : n = qs.length) (z : Int) : z ∈ qs ↔ Reach us y z := by
  refine ⟨w.reach z, fun r => ?_⟩
  induction r with
  | refl => exact w.begin_
  | step _ e1 ih =>
    obtain ⟨i, hi, e2⟩ := List.getElem_of_mem ih
    exact w.shut i _ (by omega) (by rw [← e2]; exact List.getElem?_eq_getElem hi) _ e1
def sp_ways_from (K : PySem.W.Frag) : Sp := fun vs H Q _ => ∃ (y m : Int) (wa : Addr) (xs : List V) (us : List (Int × Int)), vs = [.int y, .ref wa] ∧ SqT K H wa xs ∧ DpAll K H xs (us.map dP) ∧ (∀ u ∈ us, (0 ≤ u.1 ∧ u.1 < m) ∧ (0 ≤ u.2 ∧ u.2 < m)) ∧ us.length ≤ 1000 ∧ (0 ≤ y ∧ y < m) ∧ m ≤ 60 ∧
  ∀ (f : Addr) (kvs : List (Key × V)) (ks : List Int) H', H f = none → G none H H' → H' f = some (.dK kvs) → kvs.map (·.1) = ks.map Sum.inl → ks.Nodup → (∀ k ∈ ks, 0 ≤ k ∧ k < m) → (∀ z, z ∈ ks ↔ Reach us y z) → Q (.ref f) H'
theorem ok_ways_from (T : Txt K mg a) : FnOk P w K mg base CX0 1 a.f_ways_from a.d_ways_from P_ways_from (sp_ways_from K) := by
  refine T.F_ways_from.ok sc_ways_from (fun vs H Q E h => by obtain ⟨y, m, wa, xs, us, rfl, _⟩ := h; rfl) (fun cdv A outer s H vs Q E hr h => ?_)
  obtain ⟨y, m, wa, xs, us, rfl, hxs, hds, hus, lu, hy, hm, k⟩ := h
  have lx : xs.length = us.length := by rw [DpAll.length hds, List.length_map]
  refine ⟨_, (pss_cons (ps_set (i := 2) sc_ways_from.nd rfl (Or.inl rfl) pe_dnewK)
  (pss_cons (ps_for PassesOwn.never rfl (pi_tup (pv 1)) (pg_tup rfl (pgs_cons (pg_name (i := 3) sc_ways_from.nd rfl (Or.inl rfl)) (pgs_cons (pg_name (i := 4) sc_ways_from.nd rfl (Or.inl rfl)) pgs_nil)))
    (pss_one (ps_expr (pe_bm PySem.F.plainAttrs_list PySem.F.slot_list_append PySem.F.type_list_append mt_append (pe_dsetd (pv 2) (pv 3) (pe_lstN pa_nil) ⟨rfl, rfl, rfl, rfl⟩) (pa_cons (pv 4) pa_nil)))))
  (pss_cons (ps_set (i := 5) sc_ways_from.nd rfl (Or.inl rfl) (pe_disp (pps_cons (pv 0) pe_non pps_nil) (by rfl) (by rfl) (fun z => by cases z) (by decide)))
  (pss_cons (ps_set (i := 6) sc_ways_from.nd rfl (Or.inl rfl) (pe_lstN (pa_cons (pv 0) pa_nil)))
  (pss_cons (ps_set (i := 7) sc_ways_from.nd rfl (Or.inl rfl) pe_int)
  (pss_cons (ps_while PassesOwn.never (pt_cmpR op_lt (pv 7) (pe_callB call_len_seq (by rfl) T.n_len (by decide +kernel) (pa_cons (pv 6) pa_nil)) (nomark _))
    (pss_cons (ps_set (i := 8) sc_ways_from.nd rfl (Or.inl rfl) (pe_ix ix_list (pv 6) (pv 7) (fun _ _ => rfl)))
  (pss_cons (ps_aug (i := 7) sc_ways_from.nd rfl (Or.inl rfl) pe_int ip_add)
  (pss_one (ps_for PassesOwn.never rfl (pi_list (pe_dget2 (hu_of hr) (pv 2) (pv 8) (pe_lstN pa_nil) ⟨rfl, rfl, rfl, rfl⟩)) (pg_name (i := 4) sc_ways_from.nd rfl (Or.inl rfl))
    (pss_one (ps_if (pt_cmp (pc_dnotin (hu_of hr) (pv 4) (pv 5)))
    (pss_cons (ps_dput (hu_of hr) (pv 5) (pv 4) (pv 8) rfl)
  (pss_one (ps_expr (pe_bm PySem.F.plainAttrs_list PySem.F.slot_list_append PySem.F.type_list_append mt_append (pv 6) (pa_cons (pv 4) pa_nil)))))
    pss_nil)))))))
  (pss_one (ps_ret (pv 5))))))))), ?_⟩
  walk_at "ws"
  intro od hod
  have h1 : (upd H od (.dK [])) od = some (.dK (kvO [])) := upd_same
  have g1 : G none H (upd H od (.dK [])) := G.alloc hod
  generalize upd H od (.dK []) = H1 at h1 g1 ⊢
  walk_at "ws"
  refine i_tup (sqT_t g1.tups hxs) ?_
  refine for_it (walk_tup (xs := xs)) (fun i σ H' => ∃ ps u3 u4, σ = [some (.int y), some (.ref wa), some (.ref od), u3, u4, none, none, none, none] ∧ G none H H' ∧ On H H' od ps (us.take i) ∧ ∀ p ∈ ps, 0 ≤ p.1 ∧ p.1 < m) ⟨[], _, _, rfl, g1, ⟨h1, by simp, by simp, (fun _ h => nomatch h), (fun _ h => nomatch h)⟩, (fun _ h => nomatch h)⟩ (fun i σ H' _ ⟨_, _, _, _, q, _⟩ => sqT_t q.tups hxs) ?_ ?_
  · rintro i v σ _ H2 hi ⟨ps, u3, u4, rfl, g2, on, hps⟩ ⟨rfl, hv⟩
    obtain ⟨d, hd, hvd⟩ := DpAll.get hds hv
    rw [List.getElem?_map] at hd
    obtain ⟨u, hu, rfl⟩ := Option.map_eq_some_iff.mp hd
    obtain ⟨t, rfl, ht⟩ := dp_dP hvd
    have um := hus u (List.mem_of_getElem? hu)
    have tk : us.take (i + 1) = us.take i ++ [u] := by rw [List.take_add_one, hu]; rfl
    have l60 := ps_few on.nk hps hm
    refine ⟨t, _, rfl, sqT_t g2.tups ht, rfl, ?_⟩
    refine ⟨_, _, rfl, ?_⟩
    walk_at "ws"
    refine ⟨_, _, rfl, ?_⟩
    walk_at "ws"
    refine ⟨rfl, ?_⟩
    walk_at "ws"
    refine w_dsetd ?_
    walk_at "ws"
    refine ⟨od, rfl, .inl ⟨_, .inl on.d⟩, ?_⟩
    walk_at "ws"
    refine ⟨sz (by simp), fun l H3 hl g3 h3 => ?_⟩
    have on3 : On H H3 od ps (us.take i) := on.keep fun b u _ e => (g3 none).all _ _ e
    have g03 := g2.trans (g3 none)
    have l0 : H l = none := new_bk g2 hl
    refine ⟨kvO ps, Sum.inl u.1, on3.d, rfl, Nat.lt_of_le_of_lt (by unfold kvO; rw [List.length_map]; exact l60) (by decide : (60 : Nat) < sizeLine), fun v hv => ?_, fun hv => ?_⟩
    · obtain ⟨p, hp, e⟩ : ∃ p ∈ ps, p.1 = u.1 := by
        by_cases c : ∃ p ∈ ps, p.1 = u.1
        · exact c
        · rw [kvO_out fun p hp e => c ⟨p, hp, e⟩] at hv; cases hv
      rw [← e, kvO_in on3.nk hp] at hv
      cases hv
      have hpl := (on3.l p hp).1
      have lo : (outs (us.take i) p.1).length ≤ 1000 := by
        unfold outs
        rw [List.length_map]
        have := List.length_filter_le (fun u => decide (u.1 = p.1)) (us.take i)
        rw [List.length_take] at this
        omega
      refine ⟨.inl ⟨rfl, _, SqL.of hpl⟩, ?_⟩
      walk_at "ws"
      refine r_app hpl (by rw [List.length_map]; omega) ?_
      walk_at "ws"
      have eu : u = (p.1, u.2) := Prod.ext e.symm rfl
      refine ⟨ps, _, _, rfl, g03.mut (on3.l p hp).2 (fun _ e => nomatch e), by rw [tk, eu]; exact on3.more hp u.2, hps⟩
    · have hno : ∀ p ∈ ps, p.1 ≠ u.1 := fun p hp e => by rw [← e, kvO_in on3.nk hp] at hv; cases hv
      have ep : putK (kvO ps) (Sum.inl u.1) (.ref l) = kvO ps ++ [((Sum.inl u.1 : Key), V.ref l)] := kv_put (ks := ps.map (·.1)) (by unfold kvO; rw [List.map_map, List.map_map]; rfl) (fun z => by
        obtain ⟨p, hp, e⟩ := List.mem_map.mp z
        exact hno p hp e) _
      rw [ep]
      have nol : od ≠ l := ne_of on3.d h3 (by intro z; cases z)
      have h4 : (upd H3 od (.dK (kvO ps ++ [((Sum.inl u.1 : Key), V.ref l)]))) l = some (.lst []) := by rw [upd_ne nol.symm]; exact h3
      have g04 : G none H (upd H3 od (.dK (kvO ps ++ [((Sum.inl u.1 : Key), V.ref l)]))) := g03.mut hod (fun _ e => nomatch e)
      have nl : ∀ p ∈ ps, p.2 ≠ l := fun p hp e => by
        have := (on.l p hp).1
        rw [e, hl] at this; cases this
      refine ⟨.inl ⟨rfl, _, SqL.of h4⟩, ?_⟩
      walk_at "ws"
      refine r_app h4 (by simp) ?_
      walk_at "ws"
      refine ⟨ps ++ [(u.1, l)], _, _, rfl, g04.mut l0 (fun _ e => nomatch e), by rw [tk]; exact on3.new hno h3 l0 nl u.2, fun p hp => ?_⟩
      rcases List.mem_append.mp hp with h | h
      · exact hps p h
      · have e : p = (u.1, l) := by simpa using h
        subst e; exact um.1
  rintro σ H2 ⟨ps, u3, u4, rfl, g2, on, hps⟩
  rw [lx, List.take_of_length_le (Nat.le_refl _)] at on
  clear g1 h1
  walk_at "ws"
  intro fa hfa
  show tVar 0 _ _ _
  walk_at "ws"
  refine ⟨upd_same, [(Sum.inl y, .non)], rfl, by simp, ?_⟩
  have hfa0 : H fa = none := new_bk g2 hfa
  have nof : od ≠ fa := ne_of_none on.d hfa
  have g3 : G none H (upd (upd H2 fa (.dK [])) fa (.dK (mergeK [] [(Sum.inl y, .non)]))) := (g2.mut hfa0 (fun _ e => nomatch e)).mut hfa0 (fun _ e => nomatch e)
  have h3f : (upd (upd H2 fa (.dK [])) fa (.dK (mergeK [] [(Sum.inl y, .non)]))) fa = some (.dK [((Sum.inl y : Key), .non)]) := upd_same
  have on3 : On H (upd (upd H2 fa (.dK [])) fa (.dK (mergeK [] [(Sum.inl y, .non)]))) od ps us := on.keep fun b u _ e => by
    have n := ne_of_none e hfa
    rw [upd_ne n, upd_ne n]; exact e
  generalize upd (upd H2 fa (.dK [])) fa (.dK (mergeK [] [(Sum.inl y, .non)])) = H3 at g3 h3f on3 ⊢
  walk_at "ws"
  refine ⟨sz (by simp), fun qa H4 hqa g4 h4 => ?_⟩
  have hqa0 : H qa = none := new_bk g3 hqa
  have h4f := (g4 none).all _ _ h3f
  have nfq : fa ≠ qa := ne_of h4f h4 (by intro z; cases z)
  have on4 : On H H4 od ps us := on3.keep fun b u _ e => (g4 none).all _ _ e
  have npq : ∀ p ∈ ps, p.2 ≠ qa := fun p hp e => by
    have := (on3.l p hp).1
    rw [e, hqa] at this; cases this
  have noq : od ≠ qa := ne_of on4.d h4 (by intro z; cases z)
  have npf : ∀ p ∈ ps, p.2 ≠ fa := fun p hp e => by
    have := (on4.l p hp).1
    rw [e, h4f] at this; cases this
  walk_at "ws"
  refine ⟨fun μ σ H' => ∃ (kvs : List (Key × V)) (qs : List Int) (n : Nat) (v3 v4 v8 : Option V), σ = [some (.int y), some (.ref wa), some (.ref od), v3, v4, some (.ref fa), some (.ref qa), some (.int (n : Int)), v8] ∧ G none H H' ∧ On H H' od ps us ∧ H' fa = some (.dK kvs) ∧ kvs.map (·.1) = qs.map Sum.inl ∧ H' qa = some (.lst (qs.map V.int)) ∧ Way m us y qs n ∧ μ = m.toNat - n,
    ⟨_, [((Sum.inl y : Key), .non)], [y], 0, _, _, _, rfl, g3.trans (g4 none), on4, h4f, rfl, h4, ⟨by simp, fun z hz => ?_, fun z hz => ?_, by simp, Nat.zero_le _, fun i k hi => absurd hi (Nat.not_lt_zero _)⟩, rfl⟩, ?_⟩
  · have e : z = y := by simpa using hz
    rw [e]; exact hy
  · have e : z = y := by simpa using hz
    rw [e]; exact .refl y
  rintro μ σ H5 ⟨kvs, qs, n, v3, v4, v8, rfl, g5, on5, h5f, hkv, h5q, way, rfl⟩
  have few := way.few
  walk_at "ws"
  refine ⟨qa, _, rfl, .inl (SqL.of h5q), ?_⟩
  rw [List.length_map]
  walk_at "ws"
  refine w_ite (fun e => ?_) (fun e => ?_)
  · have hn : n < qs.length := by
      have e : (n : Int) < (qs.length : Int) := of_decide_eq_true e
      omega
    refine ⟨fun σ H' => ∃ (kvs : List (Key × V)) (qs' : List Int) (v3 v4 v8 : Option V), σ = [some (.int y), some (.ref wa), some (.ref od), v3, v4, some (.ref fa), some (.ref qa), some (.int ((n + 1 : Nat) : Int)), v8] ∧ G none H H' ∧ On H H' od ps us ∧ H' fa = some (.dK kvs) ∧ kvs.map (·.1) = qs'.map Sum.inl ∧ H' qa = some (.lst (qs'.map V.int)) ∧ Way m us y qs' (n + 1), ?_, ?_⟩
    · rintro σ' H' ⟨kvs', qs', w3, w4, w8, rfl, q1, q2, q3, q4, q5, q6⟩
      have := q6.few
      have := q6.le
      refine ⟨m.toNat - (n + 1), by omega, kvs', qs', n + 1, _, _, _, rfl, q1, q2, q3, q4, q5, q6, rfl⟩
    · walk_at "ws"
      obtain ⟨here, hh⟩ : ∃ z, qs[n]? = some z := ⟨_, List.getElem?_eq_getElem hn⟩
      refine r_ixL (SqL.of h5q) (v := .int here) (at_of (j := n) rfl (by rw [List.getElem?_map, hh]; rfl)) ?_
      walk_at "ws"
      refine w_aug ⟨_, rfl, ?_⟩
      walk_at "ws"
      refine ⟨_, _, rfl, rfl, ?_⟩
      walk_at "ws"
      refine w_dget2 ?_
      walk_at "ws"
      refine ⟨od, rfl, .inl ⟨_, .inl on5.d⟩, ?_⟩
      walk_at "ws"
      refine ⟨sz (by simp), fun l0 H6 hl0 g6 h6 => ?_⟩
      have on6 : On H H6 od ps us := on5.keep fun b u _ e => (g6 none).all _ _ e
      have h6f := (g6 none).all _ _ h5f
      have h6q := (g6 none).all _ _ h5q
      have g06 := g5.trans (g6 none)
      refine ⟨_, DGet.k (k := Sum.inl here) on6.d, ?_⟩
      obtain ⟨l, el, hl, nlq, nlf⟩ : ∃ l, (valV (kvO ps) (Sum.inl here)).getD (.ref l0) = .ref l ∧ H6 l = some (.lst ((outs us here).map V.int)) ∧ l ≠ qa ∧ l ≠ fa := by
        by_cases c : ∃ p ∈ ps, p.1 = here
        · obtain ⟨p, hp, rfl⟩ := c
          exact ⟨p.2, by rw [kvO_in on6.nk hp]; rfl, (on6.l p hp).1, npq p hp, npf p hp⟩
        · refine ⟨l0, by rw [kvO_out fun p hp e => c ⟨p, hp, e⟩]; rfl, ?_, (ne_of_none h5q hl0).symm, (ne_of_none h5f hl0).symm⟩
          rw [on6.none_ fun p hp e => c ⟨p, hp, e⟩]
          exact h6
      rw [el]
      have reach_h : Reach us y here := way.reach _ (List.mem_of_getElem? hh)
      refine i_list (SqL.of hl) ?_
      refine for_it (walk_list (xs := (outs us here).map V.int)) (fun i σ H' => ∃ (kvs : List (Key × V)) (ext : List Int) (v4 : Option V), σ = [some (.int y), some (.ref wa), some (.ref od), v3, v4, some (.ref fa), some (.ref qa), some (.int ((n : Int) + 1)), some (.int here)] ∧ G none H H' ∧ On H H' od ps us ∧ H' l = some (.lst ((outs us here).map V.int)) ∧ H' fa = some (.dK kvs) ∧ kvs.map (·.1) = (qs ++ ext).map Sum.inl ∧ H' qa = some (.lst ((qs ++ ext).map V.int)) ∧ (qs ++ ext).Nodup ∧ (∀ k ∈ qs ++ ext, (0 ≤ k ∧ k < m) ∧ Reach us y k) ∧ ∀ (j : Nat) (z : Int), j < i → (outs us here)[j]? = some z → z ∈ qs ++ ext)
        ⟨kvs, [], _, rfl, g06, on6, hl, h6f, by rw [List.append_nil]; exact hkv, by rw [List.append_nil]; exact h6q, by rw [List.append_nil]; exact way.nd, fun k hk => by rw [List.append_nil] at hk; exact ⟨way.rng k hk, way.reach k hk⟩, fun j z hj => absurd hj (Nat.not_lt_zero _)⟩ (fun i σ H' _ ⟨_, _, _, _, _, _, q, _⟩ => SqL.of q) ?_ ?_
      · rintro i v σ _ H7 hi ⟨kvs, ext, v4, rfl, g7, on7, h7l, h7f, hkv7, h7q, nd7, rg7, cov⟩ ⟨rfl, hv⟩
        rw [List.getElem?_map] at hv
        obtain ⟨x, hx, rfl⟩ := Option.map_eq_some_iff.mp hv
        have hxu : (here, x) ∈ us := outs_mem.mp (List.mem_of_getElem? hx)
        have l7 : ((qs ++ ext).length : Int) ≤ m := by
          have hm0 : 0 ≤ m := by omega
          have := List.Nodup.length_le_of_subset (l₂ := (List.range m.toNat).map fun (i : Nat) => (i : Int)) nd7 fun k hk => by
            have := (rg7 k hk).1
            exact List.mem_map.mpr ⟨k.toNat, List.mem_range.mpr (by omega), by omega⟩
          rw [List.length_map, List.length_range] at this
          omega
        have lk : kvs.length = (qs ++ ext).length := by
          have := congrArg List.length hkv7
          simpa using this
        walk_at "ws"
        show tVar 4 _ _ _
        walk_at "ws"
        refine ⟨fa, _, rfl, DGet.k (k := Sum.inl x) h7f, ?_⟩
        rw [← valV_any, kv_any hkv7]
        walk_at "ws"
        refine w_ite (fun e2 => ?_) (fun e2 => ?_)
        · have n2 : x ∉ qs ++ ext := by simpa using e2
          walk_at "ws"
          show tVar _ _ _ _
          walk_at "ws"
          refine ⟨fa, _, rfl, DPut.k (k := Sum.inl x) h7f (Nat.lt_of_le_of_lt (by omega : kvs.length ≤ 60) (by decide : (60 : Nat) < sizeLine)), ?_⟩
          rw [kv_put hkv7 n2]
          have h8f : (upd H7 fa (.dK (kvs ++ [((Sum.inl x : Key), V.int here)]))) fa = some (.dK (kvs ++ [((Sum.inl x : Key), V.int here)])) := upd_same
          have h8q : (upd H7 fa (.dK (kvs ++ [((Sum.inl x : Key), V.int here)]))) qa = some (.lst ((qs ++ ext).map V.int)) := by rw [upd_ne nfq.symm]; exact h7q
          have h8l : (upd H7 fa (.dK (kvs ++ [((Sum.inl x : Key), V.int here)]))) l = some (.lst ((outs us here).map V.int)) := by rw [upd_ne nlf]; exact h7l
          have g8 : G none H (upd H7 fa (.dK (kvs ++ [((Sum.inl x : Key), V.int here)]))) := g7.mut hfa0 (fun _ e => nomatch e)
          have on8 : On H (upd H7 fa (.dK (kvs ++ [((Sum.inl x : Key), V.int here)]))) od ps us := on7.keep fun b u hb e => by
            have n : b ≠ fa := by
              rcases hb with rfl | ⟨p, hp, rfl⟩
              · exact nof
              · exact npf p hp
            rw [upd_ne n]; exact e
          generalize upd H7 fa (.dK (kvs ++ [((Sum.inl x : Key), V.int here)])) = H8 at h8f h8q h8l g8 on8 ⊢
          walk_at "ws"
          refine i_BM h8q ?_
          walk_at "ws"
          refine r_app h8q (by rw [List.length_map]; omega) ?_
          walk_at "ws"
          refine ⟨_, ext ++ [x], _, rfl, g8.mut hqa0 (fun _ e => nomatch e), on8.keep fun b u hb e => ?_, by rw [upd_ne nlq]; exact h8l, by rw [upd_ne nfq]; exact h8f, ?_, ?_, ?_, fun k hk => ?_, fun j z hj hz => ?_⟩
          · have n : b ≠ qa := by
              rcases hb with rfl | ⟨p, hp, rfl⟩
              · exact noq
              · exact npq p hp
            rw [upd_ne n]; exact e
          · rw [← List.append_assoc, List.map_append, List.map_append, hkv7]; rfl
          · rw [upd_same]; simp [List.map_append, List.append_assoc]
          · rw [← List.append_assoc]
            exact List.nodup_append.mpr ⟨nd7, by simp, fun a ha b hb e => by
              have eb : b = x := by simpa using hb
              exact n2 (by rw [← eb, ← e]; exact ha)⟩
          · rw [← List.append_assoc] at hk
            rcases List.mem_append.mp hk with h | h
            · exact rg7 k h
            · have e : k = x := by simpa using h
              rw [e]; exact ⟨(hus _ hxu).2, .step reach_h hxu⟩
          · rw [← List.append_assoc]
            rcases Nat.lt_succ_iff_lt_or_eq.mp hj with h | h
            · exact List.mem_append_left _ (cov j z h hz)
            · subst h
              rw [hx] at hz
              cases hz
              exact List.mem_append_right _ (by simp)
        · have n2 : x ∈ qs ++ ext := of_decide_eq_true (by cases h : decide (x ∈ qs ++ ext) with | true => rfl | false => rw [h] at e2; cases e2)
          walk_at "ws"
          refine ⟨kvs, ext, _, rfl, g7, on7, h7l, h7f, hkv7, h7q, nd7, rg7, fun j z hj hz => ?_⟩
          rcases Nat.lt_succ_iff_lt_or_eq.mp hj with h | h
          · exact cov j z h hz
          · subst h
            rw [hx] at hz
            cases hz
            exact n2
      · rintro σ H7 ⟨kvs, ext, v4, rfl, g7, on7, h7l, h7f, hkv7, h7q, nd7, rg7, cov⟩
        rw [List.length_map] at cov
        refine ⟨kvs, qs ++ ext, _, _, _, rfl, g7, on7, h7f, hkv7, h7q, ⟨nd7, fun k hk => (rg7 k hk).1, fun k hk => (rg7 k hk).2, List.mem_append_left _ way.begin_, by rw [List.length_append]; omega, fun i k hi hk z hz => ?_⟩⟩
        by_cases c : i < n
        · rw [List.getElem?_append_left (by omega)] at hk
          exact List.mem_append_left _ (way.shut i k c hk z hz)
        · have ei : i = n := by omega
          subst ei
          rw [List.getElem?_append_left hn, hh] at hk
          cases hk
          obtain ⟨j, hj, ej⟩ := List.getElem_of_mem (outs_mem.mpr hz)
          exact cov j z hj (by rw [← ej]; exact List.getElem?_eq_getElem hj)
  · have hn : n = qs.length := by
      have := way.le
      have e : ¬ (n : Int) < (qs.length : Int) := of_decide_eq_false e
      omega
    walk_at "ws"
    exact k fa kvs qs H5 hfa0 g5 h5f hkv way.nd way.rng (way.all hn)

end
end Mine
/-! ## K10 -/


namespace Mine
section
variable {P : Program} {w : World} {K : PySem.W.Frag} {mg : Str → Option Value} {base : Heap} {a : Ads}

/-! ### reached, is_strong -/
def sp_check_machine (K : PySem.W.Frag) (C : Addr) : Sp := fun vs H Q _ => ∃ (x : Addr) (m : Int) (ws : List (Int × Int)) (y : Int), vs = [.ref x, .int y] ∧ WebAt K C H x m ws ∧ (0 ≤ y ∧ y < m) ∧ Q .non H
theorem ok_check_machine (T : Txt K mg a) : FnOk P w K mg base CX0 4 a.f_check_machine a.d_check_machine P_check_machine (sp_check_machine K a.c_Web) := by
  refine T.F_check_machine.ok sc_check_machine (fun vs H Q E h => by obtain ⟨x, m, ws, y, rfl, _⟩ := h; rfl) (fun cdv A outer s H vs Q E hr h => ?_)
  obtain ⟨x, m, ws, y, rfl, ⟨dx, wa, hxi, hwa⟩, hy, k⟩ := h
  have G_is_below : FnOk P w K mg base CX0 3 a.f_is_below a.d_is_below P_is_below sp_is_below := ok_is_below T
  refine ⟨_, (pss_one (ps_if (pt_not (pt_val (pe_call (G_is_below) (hr.mono (by omega)) rfl T.m_is_below T.F_is_below.kp T.b_is_below .nil pass0 (pa_cons (pe_fld (pv 0) rfl) (pa_cons (pv 1) pa_nil)))))
    pss_never
    pss_nil)), ?_⟩
  walk_at "ws"
  refine r_fld hxi T.cl_Web T.na_Web_machines (wf_m _ _) ?_
  walk_at "ws"
  refine ⟨m, y, rfl, ?_⟩
  walk_at "ws"
  refine w_iteN (by simp; omega) ?_
  walk_at "ws"
  exact k
def sp_reached (K : PySem.W.Frag) (C : Addr) : Sp := fun vs H Q _ => ∃ (x : Addr) (m : Int) (ws : List (Int × Int)) (y : Int), vs = [.ref x, .int y] ∧ WebAt K C H x m ws ∧ IsWeb m ws ∧ (0 ≤ y ∧ y < m) ∧
  ∀ p (rs : List Int) H', H p = none → G none H H' → Dp K H' (.ref p) (dI rs) → rs.Pairwise (· < ·) → (∀ z, z ∈ rs ↔ Reach ws y z) → Q (.ref p) H'
theorem web_few49 {m : Int} {ws : List (Int × Int)} (h : IsWeb m ws) : ws.length ≤ 49 := by
  have hn : (ws.map fun u => (u.1 * 7 + u.2).toNat).Nodup := by
    have : (ws.map fun u => (u.1 * 7 + u.2).toNat).Pairwise (· < ·) := by
      rw [List.pairwise_map]
      refine List.Pairwise.imp_of_mem (fun {u v} hu hv huv => ?_) h.asc
      have h1 := h.mem u hu
      have h2 := h.mem v hv
      have := h.hi
      unfold ltP at huv
      omega
    exact this.imp fun h => Nat.ne_of_lt h
  have hs : ∀ k ∈ (ws.map fun u => (u.1 * 7 + u.2).toNat), k ∈ List.range 49 := by
    intro k hk
    obtain ⟨u, hu, rfl⟩ := List.mem_map.mp hk
    have h1 := h.mem u hu
    have := h.hi
    rw [List.mem_range]
    omega
  have := List.Nodup.length_le_of_subset hn hs
  simpa using this
theorem ok_reached (T : Txt K mg a) : FnOk P w K mg base CX0 5 a.f_reached a.d_reached P_reached (sp_reached K a.c_Web) := by
  refine T.F_reached.ok sc_reached (fun vs H Q E h => by obtain ⟨x, m, ws, y, rfl, _⟩ := h; rfl) (fun cdv A outer s H vs Q E hr h => ?_)
  obtain ⟨x, m, ws, y, rfl, hx, hw, hy, k⟩ := h
  have G_check_machine : FnOk P w K mg base CX0 4 a.f_check_machine a.d_check_machine P_check_machine (sp_check_machine K a.c_Web) := ok_check_machine T
  have G_ways_from : FnOk P w K mg base CX0 1 a.f_ways_from a.d_ways_from P_ways_from (sp_ways_from K) := ok_ways_from T
  have hm := hw.hi
  obtain ⟨dx, wa, hxi, hwa⟩ := id hx
  obtain ⟨wa', vs, e, hvs, hds⟩ := dp_tup hwa
  cases e
  have l49 := web_few49 hw
  refine ⟨_, (pss_cons (ps_expr (pe_call (G_check_machine) (hr.mono (by omega)) rfl T.m_check_machine T.F_check_machine.kp T.b_check_machine .nil pass0 (pa_cons (pv 0) (pa_cons (pv 1) pa_nil))))
  (pss_one (ps_ret (pe_callTy call_tupleN (by rfl) T.n_tuple (by decide +kernel) (pa_cons (pe_callB (cr_sortedDN rfl) (by rfl) T.n_sorted (by decide +kernel) (pa_cons (pe_call (G_ways_from) (hr.mono (by omega)) rfl T.m_ways_from T.F_ways_from.kp T.b_ways_from .nil pass0 (pa_cons (pv 1) (pa_cons (pe_fld (pv 0) rfl) pa_nil))) pa_nil)) pa_nil))))), ?_⟩
  walk_at "ws"
  refine ⟨x, m, ws, y, rfl, hx, hy, ?_⟩
  walk_at "ws"
  refine r_fld hxi T.cl_Web T.na_Web_wires (wf_w _ _) ?_
  walk_at "ws"
  refine ⟨y, m, wa, vs, ws, rfl, hvs, hds, fun u hu => ⟨(hw.mem u hu).1, (hw.mem u hu).2.1⟩, by omega, hy, by omega, fun f kvs ks H2 hf g2 h2 hkv nd rng all => ?_⟩
  walk_at "ws"
  have lk : ks.length ≤ 7 := by
    have := List.Nodup.length_le_of_subset (l₂ := (List.range 7).map fun (i : Nat) => (i : Int)) nd fun k hk => by
      have := rng k hk
      exact List.mem_map.mpr ⟨k.toNat, List.mem_range.mpr (by omega), by omega⟩
    simpa using this
  refine ⟨f, kvs, ks, rfl, h2, hkv, by omega, fun ns pm pw q H4 hq g4 h4 => ?_⟩
  walk_at "ws"
  refine ⟨q, _, rfl, .inl ⟨SqL.of h4, fun p H5 hp g5 h5 => ?_⟩⟩
  have nd2 : ns.Nodup := pm.nodup_iff.mpr nd
  have g35 := (g2.trans (g4 none)).trans (g5 none)
  refine k p ns H5 (new_bk (g2.trans (g4 none)) hp) g35 (dp_ofI (SqT.of h5)) ?_ (fun z => by rw [pm.mem_iff]; exact all z)
  exact (List.pairwise_iff_getElem.mpr fun i j hi hj hij => by
    have h1 := List.pairwise_iff_getElem.mp pw i j hi hj hij
    have h2 := List.pairwise_iff_getElem.mp nd2 i j hi hj hij
    omega)

theorem reach_rng {m : Int} {ws : List (Int × Int)} (hw : IsWeb m ws) {y z : Int} (h : Reach ws y z) (hy : 0 ≤ y ∧ y < m) : 0 ≤ z ∧ z < m := by
  induction h with
  | refl => exact hy
  | step _ e _ => exact (hw.mem _ e).2.1
theorem len_all {m : Int} {rs : List Int} (nd : rs.Nodup) (hr : ∀ z ∈ rs, 0 ≤ z ∧ z < m) (hm : 0 ≤ m) : (rs.length : Int) = m ↔ ∀ x, 0 ≤ x → x < m → x ∈ rs := by
  have up : ∀ l : List Int, l.Nodup → (∀ z ∈ l, 0 ≤ z ∧ z < m) → l.length ≤ m.toNat := fun l h1 h2 => by
    have := List.Nodup.length_le_of_subset (l₂ := (List.range m.toNat).map fun i => ((i : Nat) : Int)) h1 fun x hx => by
      have := h2 x hx
      exact List.mem_map.mpr ⟨x.toNat, List.mem_range.mpr (by omega), by omega⟩
    simpa using this
  constructor
  · intro h x h0 h1
    by_cases c : x ∈ rs
    · exact c
    · have := up (x :: rs) (List.nodup_cons.mpr ⟨c, nd⟩) fun z hz => by
        rcases List.mem_cons.mp hz with e | e
        · rw [e]; exact ⟨h0, h1⟩
        · exact hr z e
      rw [List.length_cons] at this
      omega
  · intro h
    have h1 := up rs nd hr
    have h2 := List.Nodup.length_le_of_subset (l₁ := (List.range m.toNat).map fun i => ((i : Nat) : Int)) (l₂ := rs) (List.pairwise_map.mpr ((List.pairwise_lt_range (n := m.toNat)).imp fun h e => by omega)) fun x hx => by
      obtain ⟨i, hi, rfl⟩ := List.mem_map.mp hx
      have := List.mem_range.mp hi
      exact h _ (by omega) (by omega)
    have h2 : m.toNat ≤ rs.length := by simpa using h2
    omega
theorem bools_of {H : Hp} {xs : List V} {n : Nat} {f : Nat → Bool} (h : DpAll K H xs ((List.range n).filterMap fun i => some (PyData.bool (f i)))) : xs = ((List.range n).map f).map V.bl := by
  generalize List.range n = l at h
  induction l generalizing xs with
  | nil => cases h; rfl
  | cons z l ih =>
    rw [List.filterMap_cons] at h
    cases h with
    | cons h t => cases h; rw [ih t]; rfl
open Classical in
noncomputable def strong (m : Int) (ws : List (Int × Int)) (y : Nat) : Bool := decide (∀ x, 0 ≤ x → x < m → Reach ws y x)
theorem strong_iff {m : Int} {ws : List (Int × Int)} {y : Nat} : strong m ws y = true ↔ ∀ x, 0 ≤ x → x < m → Reach ws y x := by unfold strong; exact @decide_eq_true_iff _ (Classical.propDecidable _)
def sp_is_strong (K : PySem.W.Frag) (C : Addr) : Sp := fun vs H Q _ => ∃ (x : Addr) (m : Int) (ws : List (Int × Int)), vs = [.ref x] ∧ WebAt K C H x m ws ∧ IsWeb m ws ∧
  ∀ (b : Bool) H', G none H H' → (b = true ↔ ∀ y x, 0 ≤ y → y < m → 0 ≤ x → x < m → Reach ws y x) → Q (.bl b) H'
theorem ok_is_strong (T : Txt K mg a) : FnOk P w K mg base CX0 6 a.f_is_strong a.d_is_strong P_is_strong (sp_is_strong K a.c_Web) := by
  refine T.F_is_strong.ok sc_is_strong (fun vs H Q E h => by obtain ⟨x, m, ws, rfl, _⟩ := h; rfl) (fun cdv A outer s H vs Q E hr h => ?_)
  obtain ⟨x, m, ws, rfl, hx, hw, k⟩ := h
  have G_reached : FnOk P w K mg base CX0 5 a.f_reached a.d_reached P_reached (sp_reached K a.c_Web) := ok_reached T
  have hm := hw.hi
  have hl := hw.lo
  obtain ⟨dx, wa, hxi, hwa⟩ := id hx
  refine ⟨_, (pss_one (ps_ret (pe_callB (cr_all rfl) (by rfl) T.n_all (by decide +kernel) (pa_cons (pe_lc (own := [("machine", 1)]) (g := (gName 1)) (tt := tYes) rfl sc_is_strong.nd (pi_range1 rfl T.n_range (pa_cons (pe_fld (pv 0) rfl) pa_nil)) (blkOk_by (N := N_is_strong) (sc := defScope s_is_strong) (by decide +kernel)) (fun _ _ _ _ _ => (pg_name (i := 1) sc_is_strong.nd rfl (by first | exact Or.inl rfl | exact Or.inr rfl))) (fun _ _ _ _ _ => pts_nil) (fun _ _ _ _ _ => (pe_cmpR op_eq (pe_callB (k_call_len_seq K) (by rfl) T.n_len (by decide +kernel) (pa_cons (pe_call (G_reached) (hr.mono (by omega)) rfl T.m_reached T.F_reached.kp T.b_reached .nil pass0 (pa_cons (pv 0) (pa_cons (pv 1) pa_nil))) pa_nil)) (k_fld K (pv 0) rfl) (nomark _)))) pa_nil)))), ?_⟩
  walk_at "ws"
  refine r_fld hxi T.cl_Web T.na_Web_machines (wf_m _ _) ?_
  refine i_rng1 (by omega) (by omega) ?_
  intro D hD
  refine lc_pure (K := K) (o := none) walk_range (by omega) hD (fun _ e => nomatch e) (fun i => some (PyData.bool (strong m ws i))) (fun _ _ => trivial) ?_ ?_
  · rintro i _ _ H2 hi g2 ⟨rfl, rfl⟩ Qy Qn ky kn
    walk_at "ws"
    refine ⟨rfl, ?_⟩
    walk_at "ws"
    have ei : (0 : Int) + (i : Int) = (i : Int) := Int.zero_add _
    refine ⟨x, m, ws, (i : Int), by simp only [ei]; rfl, hx.n g2, hw, ⟨by omega, by omega⟩, fun p rs H3 hp g3 hd asc mem => ?_⟩
    walk_at "ws"
    obtain ⟨p', e, hps⟩ := dp_dI hd
    cases e
    refine ⟨p, _, rfl, .inr hps, ?_⟩
    walk_at "ws"
    refine r_fld ((g2.trans g3).all _ _ hxi) T.cl_Web T.na_Web_machines (wf_m _ _) ?_
    walk_at "ws"
    refine ky _ _ _ g3 (.bl _) rfl ?_
    rw [List.length_map]
    have e := len_all (rs := rs) (m := m) (asc.imp fun h => by omega) (fun z hz => reach_rng hw ((mem z).mp hz) ⟨by omega, by omega⟩) (by omega)
    congr 2
    rw [Bool.eq_iff_iff, strong_iff, decide_eq_true_iff, e]
    constructor
    · intro h z h0 h1; exact (mem z).mpr (h z h0 h1)
    · intro h z h0 h1; exact (mem z).mp (h z h0 h1)
  · intro xs H2 g2 hD' hds _
    rw [bools_of hds] at hD'
    walk_at "ws"
    refine ⟨D, _, rfl, SqL.of hD', ?_⟩
    refine k _ H2 g2 ?_
    rw [List.all_eq_true]
    constructor
    · intro h y z hy0 hy1 hz0 hz1
      have h1 := h (strong m ws y.toNat) (List.mem_map.mpr ⟨y.toNat, List.mem_range.mpr (by omega), rfl⟩)
      have h2 := strong_iff.mp h1 z hz0 hz1
      have e : ((y.toNat : Nat) : Int) = y := by omega
      rw [e] at h2
      exact h2
    · intro h b hb
      obtain ⟨i, hi, rfl⟩ := List.mem_map.mp hb
      have hi' := List.mem_range.mp hi
      exact strong_iff.mpr fun z h0 h1 => h _ z (by omega) (by omega) h0 h1

end
end Mine
/-! ## K11 -/


namespace Mine
section
variable {P : Program} {w : World} {K : PySem.W.Frag} {mg : Str → Option Value} {base : Heap} {a : Ads}

theorem map_erase {α β : Type} (f : α → β) : ∀ (l : List α) (n : Nat), (l.eraseIdx n).map f = (l.map f).eraseIdx n
  | [], _ => rfl
  | _ :: _, 0 => rfl
  | a :: l, n + 1 => by
    show f a :: (l.eraseIdx n).map f = f a :: (l.map f).eraseIdx n
    rw [map_erase f l n]
theorem fm_some {α β : Type} (f : α → β) (l : List α) : l.filterMap (fun x => some (f x)) = l.map f := by
  induction l with
  | nil => rfl
  | cons a l ih => rw [List.filterMap_cons, List.map_cons, ← ih]
theorem ixN_nat {n k : Nat} (h : k < n) : ixN n (k : Int) = some k := by
  unfold ixN
  rw [if_pos (by omega), if_pos (by omega)]
  simp
theorem dpAll_erase {H : Hp} : ∀ {xs : List V} {ds : List PyData} {n : Nat}, DpAll K H xs ds → DpAll K H (xs.eraseIdx n) (ds.eraseIdx n)
  | _, _, _, .nil => .nil
  | _, _, 0, .cons _ t => t
  | _, _, n + 1, .cons h t => .cons h (dpAll_erase t)
theorem web_cnt {m : Int} {ws : List (Int × Int)} (h : IsWeb m ws) {n : Nat} (hn : ∀ u ∈ ws, (u.1 * m + u.2).toNat < n) : ws.length ≤ n := by
  have hnd : (ws.map fun u => (u.1 * m + u.2).toNat).Nodup := by
    have : (ws.map fun u => (u.1 * m + u.2).toNat).Pairwise (· < ·) := by
      rw [List.pairwise_map]
      refine List.Pairwise.imp_of_mem (fun {u v} hu hv huv => ?_) h.asc
      have h1 := h.mem u hu
      have h2 := h.mem v hv
      have h3 := h.hi
      have h4 := h.lo
      unfold ltP at huv
      have : m = 1 ∨ m = 2 ∨ m = 3 ∨ m = 4 ∨ m = 5 ∨ m = 6 ∨ m = 7 := by omega
      rcases this with e | e | e | e | e | e | e <;> subst e <;> omega
    exact this.imp fun h => Nat.ne_of_lt h
  have := List.Nodup.length_le_of_subset (l₂ := List.range n) hnd fun k hk => by
    obtain ⟨u, hu, rfl⟩ := List.mem_map.mp hk
    exact List.mem_range.mpr (hn u hu)
  simpa using this
theorem web_few {m : Int} {ws : List (Int × Int)} (h : IsWeb m ws) (h3 : m ≤ 3) : ws.length ≤ 9 := web_cnt h fun u hu => by
  have h1 := h.mem u hu
  have h4 := h.lo
  have : m = 1 ∨ m = 2 ∨ m = 3 := by omega
  rcases this with e | e | e <;> subst e <;> omega
theorem web_few2 {m : Int} {ws : List (Int × Int)} (h : IsWeb m ws) (h3 : m ≤ 4) : ws.length ≤ 16 := web_cnt h fun u hu => by
  have h1 := h.mem u hu
  have h4 := h.lo
  have : m = 1 ∨ m = 2 ∨ m = 3 ∨ m = 4 := by omega
  rcases this with e | e | e | e <;> subst e <;> omega

/-! ### _law_more -/
theorem isweb_set {m : Int} {ws us : List (Int × Int)} (h1 : 1 ≤ m) (h7 : m ≤ 7) (asc : ws.Pairwise ltW) (mem : ∀ u, u ∈ ws ↔ u ∈ us) (hu : ∀ u ∈ us, (0 ≤ u.1 ∧ u.1 < m) ∧ (0 ≤ u.2 ∧ u.2 < m) ∧ u.1 ≠ u.2) : IsWeb m ws := ⟨h1, h7, fun u h => hu u ((mem u).mp h), asc⟩
theorem isweb_perm {m : Int} {ws us : List (Int × Int)} (h1 : 1 ≤ m) (h7 : m ≤ 7) (pm : ws.Perm us) (le : ws.Pairwise (fun u v => ltW u v ∨ u = v)) (nd : us.Nodup) (hu : ∀ u ∈ us, (0 ≤ u.1 ∧ u.1 < m) ∧ (0 ≤ u.2 ∧ u.2 < m) ∧ u.1 ≠ u.2) : IsWeb m ws := by
  refine ⟨h1, h7, fun u h => hu u (pm.mem_iff.mp h), ?_⟩
  have nd' : ws.Nodup := pm.nodup_iff.mpr nd
  exact List.pairwise_iff_getElem.mpr fun i j hi hj hij => by
    have a := List.pairwise_iff_getElem.mp le i j hi hj hij
    have b := List.pairwise_iff_getElem.mp nd' i j hi hj hij
    rcases a with a | a
    · exact a
    · exact absurd a b
/-- the wires round -/
def rnd (m : Nat) : List (Int × Int) := (List.range m).map fun (i : Nat) => ((i : Int), ((i : Int) + 1) % (m : Int))
theorem rnd_mem {m : Nat} (hm : 2 ≤ m) {u : Int × Int} (h : u ∈ rnd m) : (0 ≤ u.1 ∧ u.1 < (m : Int)) ∧ (0 ≤ u.2 ∧ u.2 < (m : Int)) ∧ u.1 ≠ u.2 := by
  obtain ⟨i, hi, rfl⟩ := List.mem_map.mp h
  have hi := List.mem_range.mp hi
  refine ⟨⟨by show 0 ≤ (i : Int); omega, by show (i : Int) < m; omega⟩, ⟨Int.emod_nonneg _ (by omega), Int.emod_lt_of_pos _ (by omega)⟩, ?_⟩
  show (i : Int) ≠ ((i : Int) + 1) % (m : Int)
  by_cases c : i + 1 = m
  · have e : ((i : Int) + 1) = (m : Int) := by omega
    rw [e, Int.emod_self]; omega
  · rw [Int.emod_eq_of_lt (by omega) (by omega)]; omega
theorem rnd_nd {m : Nat} : (rnd m).Nodup := by
  unfold rnd
  exact List.pairwise_map.mpr ((List.pairwise_lt_range (n := m)).imp fun h e => by
    have := congrArg Prod.fst e
    simp only at this
    omega)
def sp__law_more (K : PySem.W.Frag) : Sp := fun vs H Q _ => ∃ (hd c : Addr), vs = [.ref hd] ∧ Hand H hd c ∧ ∀ q p m (ws : List (Int × Int)) H', G (some (hd, c)) H H' → Hand H' hd c → SqT K H' q [.int m, .ref p] → Dp K H' (.ref p) (dW ws) → IsWeb m ws → Q (.ref q) H'
theorem ok__law_more (T : Txt K mg a) : FnOk P w K mg base CX0 3 a.f__law_more a.d__law_more P__law_more (sp__law_more K) := by
  refine T.F__law_more.ok sc__law_more (fun vs H Q E h => by obtain ⟨hd, c, rfl, _⟩ := h; rfl) (fun cdv A outer s H vs Q E hr h => ?_)
  obtain ⟨hd, c, rfl, hh, k⟩ := h
  have G__law_draw : FnOk P w K mg base CX0 1 a.f__law_draw a.d__law_draw P__law_draw sp__law_draw := ok__law_draw T
  have G__law_web : FnOk P w K mg base CX0 2 a.f__law_web a.d__law_web P__law_web (sp__law_web K) := ok__law_web T
  refine ⟨_, (pss_cons (ps_if (pt_cmpR op_eq (pe_call (G__law_draw) (hr.mono (by omega)) rfl T.m__law_draw T.F__law_draw.kp T.b__law_draw .nil pass0 (pa_cons (pv 0) (pa_cons pe_int pa_nil))) pe_int (nomark _))
    (pss_cons (ps_set (i := 1) sc__law_more.nd rfl (Or.inr rfl) (pe_op op_add pe_int (pe_call (G__law_draw) (hr.mono (by omega)) rfl T.m__law_draw T.F__law_draw.kp T.b__law_draw .nil pass0 (pa_cons (pv 0) (pa_cons pe_int pa_nil)))))
  (pss_cons (ps_setLc (i := 2) (own := [("_law_x", 5)]) (g := (gName 5)) (tt := tYes)  rfl sc__law_more.nd rfl rfl (sw_true rfl rfl rfl (by decide +kernel)) (pi_range1 rfl T.n_range (pa_cons (pv 1) pa_nil)) (blkOk_by (N := N__law_more) (sc := defScope s__law_more) (by decide +kernel)) (fun _ _ _ _ _ => (pg_name (i := 5) sc__law_more.nd rfl (by first | exact Or.inl rfl | exact Or.inr rfl))) (fun _ _ _ _ _ => pts_nil) (fun _ _ _ _ _ => (pe_tupN (pa_cons (pv 5) (pa_cons (pe_op op_mod (pe_callTy call_int1 (by rfl) T.n_int (by decide +kernel) (pa_cons (pe_op op_add (pv 5) pe_int) pa_nil)) (pv 1)) pa_nil)))))
  (pss_cons (ps_if (pt_cmpR op_eq (pe_call (G__law_draw) (hr.mono (by omega)) rfl T.m__law_draw T.F__law_draw.kp T.b__law_draw .nil pass0 (pa_cons (pv 0) (pa_cons pe_int pa_nil))) pe_int (nomark _))
    (pss_one (ps_expr (pe_bm PySem.F.plainAttrs_list PySem.F.slot_list_pop PySem.F.type_list_pop mt_popAt (pv 2) (pa_cons (pe_call (G__law_draw) (hr.mono (by omega)) rfl T.m__law_draw T.F__law_draw.kp T.b__law_draw .nil pass0 (pa_cons (pv 0) (pa_cons (pv 1) pa_nil))) pa_nil))))
    pss_nil)
  (pss_one (ps_ret (pe_tupN (pa_cons (pv 1) (pa_cons (pe_callTy call_tupleN (by rfl) T.n_tuple (by decide +kernel) (pa_cons (pe_callB cr_sortPN (by rfl) T.n_sorted (by decide +kernel) (pa_cons (pv 2) pa_nil)) pa_nil)) pa_nil))))))))
    pss_nil)
  (pss_cons (ps_asg (pe_tupN (pa_cons (pe_op op_add pe_int (pe_call (G__law_draw) (hr.mono (by omega)) rfl T.m__law_draw T.F__law_draw.kp T.b__law_draw .nil pass0 (pa_cons (pv 0) (pa_cons pe_int pa_nil)))) (pa_cons (pe_op op_add pe_int (pe_call (G__law_draw) (hr.mono (by omega)) rfl T.m__law_draw T.F__law_draw.kp T.b__law_draw .nil pass0 (pa_cons (pv 0) (pa_cons pe_int pa_nil)))) pa_nil))) (pg_tup rfl (pgs_cons (pg_name (i := 3) sc__law_more.nd rfl (Or.inr rfl)) (pgs_cons (pg_name (i := 4) sc__law_more.nd rfl (Or.inl rfl)) pgs_nil))))
  (pss_cons (ps_set (i := 2) sc__law_more.nd rfl (Or.inl rfl) (pe_op op_catN (pe_call (G__law_web) (hr.mono (by omega)) rfl T.m__law_web T.F__law_web.kp T.b__law_web .nil pass0 (pa_cons (pv 0) (pa_cons (pv 3) pa_nil))) (pe_callTy call_tupleN (by rfl) T.n_tuple (by decide +kernel) (pa_cons (pe_lc (own := [("_law_y", 6), ("_law_x", 5)]) (g := (gTup K 2 (gCons (gName 6) (gCons (gName 5) gNil)))) (tt := tYes) rfl sc__law_more.nd (pi_tup (pe_call (G__law_web) (hr.mono (by omega)) rfl T.m__law_web T.F__law_web.kp T.b__law_web .nil pass0 (pa_cons (pv 0) (pa_cons (pv 4) pa_nil)))) (blkOk_by (N := N__law_more) (sc := defScope s__law_more) (by decide +kernel)) (fun _ _ _ _ _ => (pg_tup rfl (pgs_cons (pg_name (i := 6) sc__law_more.nd rfl (by first | exact Or.inl rfl | exact Or.inr rfl)) (pgs_cons (pg_name (i := 5) sc__law_more.nd rfl (by first | exact Or.inl rfl | exact Or.inr rfl)) pgs_nil)))) (fun _ _ _ _ _ => pts_nil) (fun _ _ _ _ _ => (pe_tupN (pa_cons (pe_op op_add (pv 3) (pv 6)) (pa_cons (pe_op op_add (pv 3) (pv 5)) pa_nil))))) pa_nil))))
  (pss_cons (ps_if (pt_cmpR op_eq (pe_call (G__law_draw) (hr.mono (by omega)) rfl T.m__law_draw T.F__law_draw.kp T.b__law_draw .nil pass0 (pa_cons (pv 0) (pa_cons pe_int pa_nil))) pe_int (nomark _))
    (pss_one (ps_set (i := 2) sc__law_more.nd rfl (Or.inl rfl) (pe_op op_catN (pv 2) (pe_tupN (pa_cons (pe_tupN (pa_cons (pv 3) (pa_cons pe_int pa_nil))) pa_nil)))))
    pss_nil)
  (pss_one (ps_ret (pe_tupN (pa_cons (pe_op op_add (pv 3) (pv 4)) (pa_cons (pe_callTy call_tupleN (by rfl) T.n_tuple (by decide +kernel) (pa_cons (pe_callB (cr_sortSN rfl) (by rfl) T.n_sorted (by decide +kernel) (pa_cons (pe_callTy (cr_setPN rfl hr.units) (by rfl) T.n_set (by decide +kernel) (pa_cons (pe_callTy call_listN (by rfl) T.n_list (by decide +kernel) (pa_cons (pv 2) pa_nil)) pa_nil)) pa_nil)) pa_nil)) pa_nil))))))))), ?_⟩
  walk_at "ws"
  refine ⟨hd, c, 2, rfl, hh, by decide, by decide, fun d H1 d0 d1 g1 hh1 => ?_⟩
  walk_at "ws"
  refine w_ite (fun e => ?_) (fun e => ?_)
  · walk_at "ws"
    refine ⟨hd, c, 6, rfl, hh1, by decide, by decide, fun d2 H2 e0 e1 g2 hh2 => ?_⟩
    walk_at "ws"
    obtain ⟨m, em, hm2, hm7⟩ : ∃ m : Nat, 2 + d2 = (m : Int) ∧ 2 ≤ m ∧ m ≤ 7 := ⟨(2 + d2).toNat, by omega, by omega, by omega⟩
    rw [em]
    refine i_rng1 (by omega) (by omega) ?_
    rw [Int.toNat_natCast]
    intro D hD
    have g12 := g1.trans g2
    have hD0 : H D = none := new_back g12 hh2 hD
    refine lc_pure (K := K) (o := some (hd, c)) walk_range (by omega) hD (fun p e => by cases e; exact hh2) (fun i => some (dP ((i : Int), ((i : Int) + 1) % (m : Int)))) (fun _ _ => trivial) ?_ ?_
    · rintro i _ _ H3 hi g3 ⟨rfl, rfl⟩ Qy Qn ky kn
      walk_at "ws"
      refine ⟨rfl, ?_⟩
      walk_at "ws"
      refine .inl ⟨_, rfl, ?_⟩
      walk_at "ws"
      refine r_I (by omega) ?_
      refine ⟨sz (by simp), fun t H4 ht g4 h4 => ?_⟩
      simp only [Int.zero_add] at h4
      exact ky _ _ _ (g4 _) (dp_ofP (SqT.of h4)) (nl_dP _) rfl
    · intro xs H3 g3 hD3 hds _
      have e1 : ((List.range m).filterMap fun (i : Nat) => some (dP ((i : Int), ((i : Int) + 1) % (m : Int)))) = (rnd m).map dP := by
        rw [fm_some (fun i : Nat => dP ((i : Int), ((i : Int) + 1) % (m : Int)))]
        unfold rnd
        rw [List.map_map]; rfl
      rw [e1] at hds
      have hh3 := g3.hand _ rfl hh2
      have g13 := g12.trans g3
      have nD : D ≠ hd := hh2.ne hD
      have offD : ∀ p, some (hd, c) = some p → D ≠ p.1 := fun p e => by cases e; exact nD
      have lx : xs.length = m := by rw [DpAll.length hds, List.length_map]; unfold rnd; simp
      -- what is left of the wires, sorted
      -- the sequence
      with_reducible refine w_seqM (fun σ H' => ∃ (ys : List V) (us : List (Int × Int)), σ = [some (.ref hd), some (.int m), some (.ref D), none, none, none, none] ∧ G (some (hd, c)) H H' ∧ Hand H' hd c ∧ H' D = some (.lst ys) ∧ DpAll K H' ys (us.map dP) ∧ us.Nodup ∧ (∀ u ∈ us, u ∈ rnd m) ∧ us.length < 64) (fun N kN => ?_) ?_
      · walk_at "ws"
        refine ⟨hd, c, 2, rfl, hh3, by decide, by decide, fun d3 H4 f0 f1 g4 hh4 => ?_⟩
        have h4D := g4.keep D _ offD hD3
        have hds4 := dpAll_t g4.tups _ _ (nls_pairs _) hds
        walk_at "ws"
        refine w_ite (fun e => ?_) (fun e => ?_)
        · walk_at "ws"
          refine i_BM h4D ?_
          walk_at "ws"
          refine ⟨hd, c, m, rfl, hh4, by omega, by omega, fun j H5 j0 j1 g5 hh5 => ?_⟩
          have h5D := g5.keep D _ offD h4D
          have hds5 := dpAll_t g5.tups _ _ (nls_pairs _) hds4
          walk_at "ws"
          obtain ⟨n, rfl, hn⟩ : ∃ n : Nat, j = (n : Int) ∧ n < xs.length := ⟨j.toNat, by omega, by omega⟩
          refine ⟨D, xs, (n : Int), n, xs[n], rfl, rfl, h5D, by omega, by omega, (ixN_seq (ixN_nat hn)).1, List.getElem?_eq_getElem hn, ?_⟩
          have g6 : G (some (hd, c)) H (upd H5 D (.lst (xs.eraseIdx n))) := (g13.trans (g4.trans g5)).mut hD0 (fun p e => by cases e; exact hh)
          have t6 : Ts H5 (upd H5 D (.lst (xs.eraseIdx n))) := Ts.updl h5D
          refine kN _ _ ⟨_, (rnd m).eraseIdx n, rfl, g6, g6.hand _ rfl hh, upd_same, ?_, ?_, fun u hu => List.mem_of_mem_eraseIdx hu, ?_⟩
          · rw [map_erase]
            exact dpAll_erase (dpAll_t t6 _ _ (nls_pairs _) hds5)
          · exact rnd_nd.sublist (List.eraseIdx_sublist _ _)
          · have := (List.eraseIdx_sublist (rnd m) n).length_le
            have l2 : (rnd m).length = m := by unfold rnd; simp
            omega
        · walk_at "ws"
          refine kN _ _ ⟨xs, rnd m, rfl, g13.trans g4, hh4, h4D, hds4, rnd_nd, fun u hu => hu, ?_⟩
          unfold rnd
          simp
          omega
      · rintro σ H4 ⟨ys, us, rfl, g4, hh4, h4, hds4, nd, sub, few⟩
        walk_at "ws"
        refine ⟨D, ys, us, rfl, SqL.of h4, hds4, few, fun u hu => ?_, fun ws pm le p H5 zs hp g5 h5 hz => ?_⟩
        · have := rnd_mem hm2 (sub u hu)
          unfold in64
          omega
        · walk_at "ws"
          refine ⟨p, zs, rfl, .inl ⟨SqL.of h5, fun q H6 hq g6 h6 => ?_⟩⟩
          walk_at "ws"
          refine ⟨sz (by simp), fun r H7 hr7 g7 h7 => ?_⟩
          have g57 := ((g5 (some (hd, c))).trans (g6 _)).trans (g7 _)
          refine k r q m ws H7 (g4.trans g57) (g57.hand (hd, c) rfl hh4) (SqT.of h7) (.tup (sqT_t (g7 none).tups (SqT.of h6)) ?_) (isweb_perm (by omega) (by omega) pm le nd fun u hu => rnd_mem hm2 (sub u hu))
          exact dpAll_t (((g6 none).trans (g7 none)).tups) _ _ (nls_pairs _) hz
  · walk_at "ws"
    refine ⟨hd, c, 3, rfl, hh1, by decide, by decide, fun d2 H2 e0 e1 g2 hh2 => ?_⟩
    walk_at "ws"
    refine ⟨hd, c, 4, rfl, hh2, by decide, by decide, fun d3 H3 f0 f1 g3 hh3 => ?_⟩
    walk_at "ws"
    refine ⟨sz (by simp), fun t H4 ht g4 h4 => ?_⟩
    refine ⟨t, _, rfl, SqT.of h4, rfl, ?_⟩
    refine ⟨_, _, rfl, ?_⟩
    walk_at "ws"
    refine ⟨_, _, rfl, ?_⟩
    walk_at "ws"
    refine ⟨rfl, ?_⟩
    have hh4 := (g4 (some (hd, c))).hand (hd, c) rfl hh3
    have g04 := ((g1.trans g2).trans g3).trans (g4 _)
    generalize eo : 1 + d2 = on
    generalize eo2 : 1 + d3 = ot
    walk_at "ws"
    refine ⟨hd, c, on, rfl, hh4, by omega, by omega, fun p1 ws1 H5 g5 hh5 hp1 hw1 => ?_⟩
    walk_at "ws"
    refine ⟨hd, c, ot, rfl, hh5, by omega, by omega, fun p2 ws2 H6 g6 hh6 hp2 hw2 => ?_⟩
    obtain ⟨p2', ys, ey, hys, hyd⟩ := dp_tup hp2
    cases ey
    have ly : ys.length = ws2.length := by rw [DpAll.length hyd, List.length_map]
    have l1 := isweb_len hw1
    have l2 := isweb_len hw2
    walk_at "ws"
    refine i_tup hys ?_
    intro D hD
    refine lc_pure (K := K) (o := some (hd, c)) (walk_tup (xs := ys)) (by omega) hD (fun p e => by cases e; exact hh6) (fun i => ws2[i]?.map fun u => dP (on + u.1, on + u.2)) (fun H' g => sqT_t g.tups hys) ?_ ?_
    · rintro i y _ H7 hi g7 ⟨rfl, hy⟩ Qy Qn ky kn
      obtain ⟨d, hd', hyd'⟩ := DpAll.get hyd hy
      rw [List.getElem?_map] at hd'
      obtain ⟨u, hu, rfl⟩ := Option.map_eq_some_iff.mp hd'
      obtain ⟨t', rfl, ht'⟩ := dp_dP hyd'
      refine ⟨t', _, rfl, sqT_t g7.tups ht', rfl, ?_⟩
      refine ⟨_, _, rfl, ?_⟩
      walk_at "ws"
      refine ⟨_, _, rfl, ?_⟩
      walk_at "ws"
      refine ⟨rfl, rfl, ?_⟩
      walk_at "ws"
      refine ⟨sz (by simp), fun q H8 hq g8 h8 => ?_⟩
      exact ky _ _ _ (g8 _) (dp_ofP (SqT.of h8)) (nl_dP _) (by rw [hu]; rfl)
    · intro xs H7 g7 hD7 hds _
      rw [ly, filterMap_range_map] at hds
      have e1 : (ws2.map fun u => dP (on + u.1, on + u.2)) = (ws2.map fun u => (on + u.1, on + u.2)).map dP := by rw [List.map_map]; rfl
      rw [e1] at hds
      have lx : xs.length = ws2.length := by rw [DpAll.length hds, List.length_map, List.length_map]
      walk_at "ws"
      refine ⟨D, xs, rfl, .inl ⟨SqL.of hD7, fun q H8 hq g8 h8 => ?_⟩⟩
      have g58 := (g6.trans g7).trans (g8 _)
      obtain ⟨p1', zs, ez, hzs, hzd⟩ := dp_tup (dp_t g58.tups _ _ (nl_dW _) hp1)
      cases ez
      have lz : zs.length = ws1.length := by rw [DpAll.length hzd, List.length_map]
      refine ⟨p1, q, zs, xs, rfl, rfl, hzs, SqT.of h8, by omega, fun w3 H9 g9 h9 => ?_⟩
      have hwd : DpAll K H9 (zs ++ xs) ((ws1 ++ (ws2.map fun u => (on + u.1, on + u.2))).map dP) := by
        rw [List.map_append]
        exact DpAll.app (dpAll_t (g9 none).tups _ _ (nls_pairs _) hzd) (dpAll_t ((g8 none).trans (g9 none)).tups _ _ (nls_pairs _) hds)
      have hh9 := (g9 (some (hd, c))).hand (hd, c) rfl ((g8 (some (hd, c))).hand (hd, c) rfl (g7.hand (hd, c) rfl hh6))
      have g09 := (g04.trans g5).trans (g58.trans (g9 _))
      have mem : ∀ u ∈ ws1 ++ (ws2.map fun u => (on + u.1, on + u.2)), (0 ≤ u.1 ∧ u.1 < on + ot) ∧ (0 ≤ u.2 ∧ u.2 < on + ot) ∧ u.1 ≠ u.2 := by
        intro u hu
        rcases List.mem_append.mp hu with z | z
        · have := hw1.mem u z
          omega
        · obtain ⟨v, hv, rfl⟩ := List.mem_map.mp z
          have := hw2.mem v hv
          simp only
          omega
      have few : (ws1 ++ (ws2.map fun u => (on + u.1, on + u.2))).length < 60 := by
        have f1 := web_few hw1 (by omega : on ≤ 3)
        have f2 := web_few2 hw2 (by omega : ot ≤ 4)
        rw [List.length_append, List.length_map]
        omega
      -- the sequence
      with_reducible refine w_seqM (fun σ H' => ∃ (w4 : Addr) (ys : List V) (us : List (Int × Int)), σ = [some (.ref hd), none, some (.ref w4), some (.int on), some (.int ot), none, none] ∧ G (some (hd, c)) H H' ∧ Hand H' hd c ∧ SqT K H' w4 ys ∧ DpAll K H' ys (us.map dP) ∧ (∀ u ∈ us, (0 ≤ u.1 ∧ u.1 < on + ot) ∧ (0 ≤ u.2 ∧ u.2 < on + ot) ∧ u.1 ≠ u.2) ∧ us.length < 64) (fun N kN => ?_) ?_
      · walk_at "ws"
        refine ⟨hd, c, 2, rfl, hh9, by decide, by decide, fun d5 HA j0 j1 gA hhA => ?_⟩
        walk_at "ws"
        have hwA := dpAll_t gA.tups _ _ (nls_pairs _) hwd
        refine w_ite (fun e => ?_) (fun e => ?_)
        · walk_at "ws"
          refine ⟨sz (by simp), fun t5 HB ht5 gB hB => ?_⟩
          walk_at "ws"
          refine ⟨sz (by simp), fun t6 HC ht6 gC hC => ?_⟩
          have gAC := gA.trans ((gB (some (hd, c))).trans (gC _))
          refine ⟨w3, t6, _, _, rfl, rfl, sqT_t gAC.tups h9, SqT.of hC, ?_, fun w5 HD gD hD' => ?_⟩
          · rw [List.length_append, lz, lx]
            simp
            omega
          refine kN _ _ ⟨w5, _, (ws1 ++ (ws2.map fun u => (on + u.1, on + u.2))) ++ [(on, 0)], rfl, g09.trans (gAC.trans (gD _)), (gD (some (hd, c))).hand (hd, c) rfl (gAC.hand (hd, c) rfl hh9), hD', ?_, fun u hu => ?_, ?_⟩
          · rw [List.map_append]
            refine DpAll.app (dpAll_t (((gB none).trans (gC none)).trans (gD none)).tups _ _ (nls_pairs _) hwA) (DpAll.one ?_)
            exact dp_t ((gC none).trans (gD none)).tups _ _ (nl_dP (on, 0)) (dp_ofP (SqT.of hB))
          · rcases List.mem_append.mp hu with z | z
            · exact mem u z
            · have e : u = (on, 0) := by simpa using z
              rw [e]
              simp only
              omega
          · rw [List.length_append, List.length_singleton]
            omega
        · walk_at "ws"
          exact kN _ _ ⟨w3, _, _, rfl, g09.trans gA, hhA, sqT_t gA.tups h9, hwA, mem, by omega⟩
      · rintro σ HA ⟨w4, vs, us, rfl, gA, hhA, hA, hdA, memA, fewA⟩
        walk_at "ws"
        refine ⟨w4, vs, rfl, .inr hA, fun l HB hl gB hB => ?_⟩
        walk_at "ws"
        have hdB := dpAll_t (gB none).tups _ _ (nls_pairs _) hdA
        refine ⟨l, vs, us, rfl, SqL.of hB, hdB, fewA, fun s1 L HC hs1 gC hC hL hmem => ?_⟩
        walk_at "ws"
        refine ⟨s1, L, us, rfl, hC, hL, hmem, fun u hu => ?_, fun ws asc memW few2 p HD zs hp gD hD' hz => ?_⟩
        · have := memA u hu
          unfold in64
          omega
        · walk_at "ws"
          refine ⟨p, zs, rfl, .inl ⟨SqL.of hD', fun q2 HE hq2 gE hE => ?_⟩⟩
          walk_at "ws"
          refine ⟨sz (by simp), fun r HF hrF gF hF => ?_⟩
          have gBF := (((gB (some (hd, c))).trans (gC _)).trans (gD _)).trans ((gE _).trans (gF _))
          refine k r q2 (on + ot) ws HF (gA.trans gBF) (gBF.hand (hd, c) rfl hhA) (SqT.of hF) (.tup (sqT_t (gF none).tups (SqT.of hE)) ?_) (isweb_set (by omega) (by omega) asc memW memA)
          exact dpAll_t (((gE none).trans (gF none)).tups) _ _ (nls_pairs _) hz

end
end Mine
/-! ## K12 -/


namespace Mine
section
variable {P : Program} {w : World} {K : PySem.W.Frag} {mg : Str → Option Value} {base : Heap} {a : Ads}

/-! ### the law -/
theorem web_new {C : Addr} {H1 : Hp} {m : Int} {p : Addr} {ws : List (Int × Int)} {F : Addr → Hp → Prop} {E : XK} (hd : Dp K H1 (.ref p) (dW ws)) (hw : IsWeb m ws) (q : ∀ x H2, H1 x = none → (∀ o, G o H1 H2) → WebAt K C H2 x m ws → F x H2) :
    ∀ x dx, H1 x = none → H1 dx = none → dx ≠ x → sp_Web_init K C (.ref x :: ([.int m, .ref p] ++ [])) (upd (upd H1 dx (.own x)) x (.ins C dx [])) (fun v H2 => v = .non ∧ F x H2) E := by
  intro x dx hx hdx nex
  have hxi : (upd (upd H1 dx (.own x)) x (.ins C dx [])) x = some (.ins C dx []) := upd_same
  have k12 : ∀ a u, H1 a = some u → (upd (upd H1 dx (.own x)) x (.ins C dx [])) a = some u := fun a u e => by
    rw [upd_ne (ne_of_none e hx), upd_ne (ne_of_none e hdx)]; exact e
  have t12 : Ts H1 (upd (upd H1 dx (.own x)) x (.ins C dx [])) := (G.of_all (o := none) k12).tups
  refine ⟨x, dx, m, p, ws, rfl, hxi, dp_t t12 _ _ (nl_dW ws) hd, hw, fun H2 k2 t2 h2 => ⟨rfl, ?_⟩⟩
  exact q x H2 hx (fun _ => G.of_all fun a u e => k2 a u (ne_of_none e hx) (k12 a u e)) ⟨dx, p, h2, dp_t (t12.trans t2) _ _ (nl_dW ws) hd⟩
theorem lt_eq {l l' : List Int} (h : l.Pairwise (· < ·)) (h' : l'.Pairwise (· < ·)) (m : ∀ z, z ∈ l ↔ z ∈ l') : l = l' := by
  have n : l.Nodup := h.imp fun h => by omega
  have n' : l'.Nodup := h'.imp fun h => by omega
  have pm := (List.perm_ext_iff_of_nodup n n').mpr m
  exact pm.eq_of_pairwise (fun a b _ _ h1 h2 => Int.le_antisymm h1 h2) (h.imp fun h => by omega) (h'.imp fun h => by omega)
/-- those that the table tells of y -/
def due (n : Nat) (f : Nat → Nat → Bool) (y : Nat) : List Int := ((List.range n).filter (f y)).map fun (i : Nat) => (i : Int)
theorem due_asc {n : Nat} {f : Nat → Nat → Bool} {y : Nat} : (due n f y).Pairwise (· < ·) := by
  unfold due
  exact List.pairwise_map.mpr (((List.pairwise_lt_range (n := n)).sublist List.filter_sublist).imp fun h => by omega)
theorem due_mem {n : Nat} {f : Nat → Nat → Bool} {y : Nat} {z : Int} : z ∈ due n f y ↔ ∃ x : Nat, x < n ∧ f y x = true ∧ z = (x : Int) := by
  unfold due
  rw [List.mem_map]
  constructor
  · rintro ⟨i, hi, rfl⟩
    obtain ⟨a, b⟩ := List.mem_filter.mp hi
    exact ⟨i, List.mem_range.mp a, b, rfl⟩
  · rintro ⟨x, a, b, rfl⟩
    exact ⟨x, List.mem_filter.mpr ⟨List.mem_range.mpr a, b⟩, rfl⟩
theorem due_reach {n : Nat} {f : Nat → Nat → Bool} {ws : List (Int × Int)} (hw : IsWeb n ws) (hf : ∀ y x : Nat, y < n → x < n → (f y x = true ↔ Reach ws y x)) {y : Nat} (hy : y < n) {z : Int} : z ∈ due n f y ↔ Reach ws y z := by
  rw [due_mem]
  constructor
  · rintro ⟨x, a, b, rfl⟩; exact (hf y x hy a).mp b
  · intro r
    have := reach_rng hw r ⟨by omega, by omega⟩
    refine ⟨z.toNat, by omega, (hf y z.toNat hy (by omega)).mpr ?_, by omega⟩
    have e : ((z.toNat : Nat) : Int) = z := by omega
    rw [e]; exact r
theorem due_len {n : Nat} {f : Nat → Nat → Bool} {y : Nat} : (due n f y).length ≤ n := by
  unfold due
  rw [List.length_map]
  have := List.length_filter_le (f y) (List.range n)
  simpa using this
/-- the order turned about -/
def osr (n : Nat) : List Int := ((List.range n).map fun (i : Nat) => (i : Int)).reverse
theorem osr_at {n : Nat} {i : Nat} (h : i < n) : (osr n)[i]? = some ((n : Int) - 1 - i) := by
  unfold osr
  rw [List.getElem?_reverse (by simpa using h), List.getElem?_map]
  have e : ((List.range n).map fun (i : Nat) => (i : Int)).length - 1 - i = n - 1 - i := by simp
  rw [e, List.getElem?_range (by omega)]
  show some (((n - 1 - i : Nat)) : Int) = _
  congr 1
  omega
theorem osr_getD {n : Nat} {i : Int} (h0 : 0 ≤ i) (h1 : i < n) : (osr n).getD i.toNat 0 = (n : Int) - 1 - i := by
  rw [List.getD_eq_getElem?_getD, osr_at (by omega)]
  show (n : Int) - 1 - ((i.toNat : Nat) : Int) = _
  omega
theorem osr_ord {n : Nat} (h : n ≤ 100) : IsOrd n (osr n) := by
  refine ⟨by omega, by omega, ?_, fun x => ?_⟩
  · unfold osr
    refine (List.reverse_perm _).nodup_iff.mpr ?_
    exact List.pairwise_map.mpr ((List.pairwise_lt_range (n := n)).imp fun h e => by omega)
  · unfold osr
    rw [List.mem_reverse, List.mem_map]
    constructor
    · rintro ⟨i, hi, rfl⟩
      have := List.mem_range.mp hi
      omega
    · intro h
      exact ⟨x.toNat, List.mem_range.mpr (by omega), by omega⟩
theorem reach_ren {n : Nat} {ws ws' : List (Int × Int)} (hw : IsWeb n ws) (hm : ∀ u, u ∈ ws' ↔ ∃ v ∈ ws, u = ((n : Int) - 1 - v.1, (n : Int) - 1 - v.2)) (y z : Int) : Reach ws' ((n : Int) - 1 - y) z ↔ Reach ws y ((n : Int) - 1 - z) := by
  constructor
  · intro h
    generalize e : (n : Int) - 1 - y = y' at h
    induction h with
    | refl => rw [← e]; have : (n : Int) - 1 - (n - 1 - y) = y := by omega
              rw [this]; exact .refl y
    | step _ d ih =>
      obtain ⟨v, hv, ev⟩ := (hm _).mp d
      have e1 := congrArg Prod.fst ev
      have e2 := congrArg Prod.snd ev
      simp only at e1 e2
      rw [e1] at ih
      rw [e2]
      have a : (n : Int) - 1 - (n - 1 - v.1) = v.1 := by omega
      have b : (n : Int) - 1 - (n - 1 - v.2) = v.2 := by omega
      rw [a] at ih
      rw [b]
      exact .step ih hv
  · intro h
    generalize e : (n : Int) - 1 - z = z' at h
    induction h generalizing z with
    | refl =>
      have : z = (n : Int) - 1 - y := by omega
      rw [this]; exact .refl _
    | @step z1 x1 _ d ih =>
      refine .step (ih ((n : Int) - 1 - z1) (by omega)) ((hm _).mpr ⟨_, d, ?_⟩)
      have : z = (n : Int) - 1 - x1 := by omega
      rw [this]
def spLaw (K : PySem.W.Frag) : Sp := fun vs H Q _ => ∃ (a : Addr) (ns : List Int), vs = [.ref a] ∧ SqL K H a (ns.map V.int) ∧ ns.length ≤ 63 ∧ ∀ H', Q (.bl true) H'
theorem ok_law (T : Txt K mg a) : FnOk P w K mg base CX0 12 a.f_law a.d_law P_law (spLaw K) := by
  refine T.F_law.ok sc_law (fun vs H Q E h => by obtain ⟨s, ns, rfl, _⟩ := h; rfl) (fun cdv A outer s0 H vs Q E hr h => ?_)
  obtain ⟨s, ns, rfl, hs, hl, k⟩ := h
  have G__law_hand : FnOk P w K mg base CX0 1 a.f__law_hand a.d__law_hand P__law_hand (sp__law_hand K) := ok__law_hand T
  have G__law_draw : FnOk P w K mg base CX0 1 a.f__law_draw a.d__law_draw P__law_draw sp__law_draw := ok__law_draw T
  have G__law_web : FnOk P w K mg base CX0 2 a.f__law_web a.d__law_web P__law_web (sp__law_web K) := ok__law_web T
  have G__law_more : FnOk P w K mg base CX0 3 a.f__law_more a.d__law_more P__law_more (sp__law_more K) := ok__law_more T
  have G__law_table : FnOk P w K mg base CX0 1 a.f__law_table a.d__law_table P__law_table (sp__law_table K) := ok__law_table T
  have G_reached : FnOk P w K mg base CX0 5 a.f_reached a.d_reached P_reached (sp_reached K a.c_Web) := ok_reached T
  have G_renamed : FnOk P w K mg base CX0 10 a.f_renamed a.d_renamed P_renamed (sp_renamed K a.c_Web) := ok_renamed T
  have G__law_flag : FnOk P w K mg base CX0 1 a.f__law_flag a.d__law_flag P__law_flag sp__law_flag := ok__law_flag T
  have G_is_strong : FnOk P w K mg base CX0 6 a.f_is_strong a.d_is_strong P_is_strong (sp_is_strong K a.c_Web) := ok_is_strong T
  have G_Web_init : FnOk P w K mg base CX0 7 a.f_Web_init a.d_Web_init P_Web_init (sp_Web_init K a.c_Web) := ok_Web_init T
  refine ⟨_, (pss_cons (ps_set (i := 1) sc_law.nd rfl (Or.inl rfl) (pe_call (G__law_hand) (hr.mono (by omega)) rfl T.m__law_hand T.F__law_hand.kp T.b__law_hand .nil pass0 (pa_cons (pv 0) pa_nil)))
  (pss_cons (ps_for PassesOwn.never rfl (pi_range1 rfl T.n_range (pa_cons pe_int pa_nil)) (pg_name (i := 2) sc_law.nd rfl (Or.inl rfl))
    (pss_cons (ps_set (i := 3) sc_law.nd rfl (Or.inl rfl) (pe_op op_add pe_int (pe_call (G__law_draw) (hr.mono (by omega)) rfl T.m__law_draw T.F__law_draw.kp T.b__law_draw .nil pass0 (pa_cons (pv 1) (pa_cons pe_int pa_nil)))))
  (pss_cons (ps_set (i := 4) sc_law.nd rfl (Or.inl rfl) (pe_call (G__law_web) (hr.mono (by omega)) rfl T.m__law_web T.F__law_web.kp T.b__law_web .nil pass0 (pa_cons (pv 1) (pa_cons (pv 3) pa_nil))))
  (pss_cons (ps_if (pt_cmpR op_eq (pe_call (G__law_draw) (hr.mono (by omega)) rfl T.m__law_draw T.F__law_draw.kp T.b__law_draw .nil pass0 (pa_cons (pv 1) (pa_cons pe_int pa_nil))) pe_int (nomark _))
    (pss_one (ps_asg (pe_call (G__law_more) (hr.mono (by omega)) rfl T.m__law_more T.F__law_more.kp T.b__law_more .nil pass0 (pa_cons (pv 1) pa_nil)) (pg_tup rfl (pgs_cons (pg_name (i := 3) sc_law.nd rfl (Or.inl rfl)) (pgs_cons (pg_name (i := 4) sc_law.nd rfl (Or.inl rfl)) pgs_nil)))))
    pss_nil)
  (pss_cons (ps_set (i := 5) sc_law.nd rfl (Or.inr rfl) (pe_make T.K_Web (G_Web_init) (hr.mono (by omega)) rfl T.m_Web T.b_Web_init .nil pass0 (pa_cons (pv 3) (pa_cons (pv 4) pa_nil))))
  (pss_cons (ps_set (i := 6) sc_law.nd rfl (Or.inr rfl) (pe_call (G__law_table) (hr.mono (by omega)) rfl T.m__law_table T.F__law_table.kp T.b__law_table .nil pass0 (pa_cons (pv 3) (pa_cons (pv 4) pa_nil))))
  (pss_cons (ps_set (i := 7) sc_law.nd rfl (Or.inr rfl) (pe_callTy call_tupleN (by rfl) T.n_tuple (by decide +kernel) (pa_cons (pe_revL (pe_listRgN rfl (by rfl) T.n_list (prg_1 (by rfl) T.n_range (pv 3)) (mo_rg1 mo_var))) pa_nil)))
  (pss_cons (ps_for PassesOwn.never rfl (pi_range1 rfl T.n_range (pa_cons (pv 3) pa_nil)) (pg_name (i := 8) sc_law.nd rfl (Or.inr rfl))
    (pss_cons (ps_set (i := 9) sc_law.nd rfl (Or.inr rfl) (pe_callTy call_tupleN (by rfl) T.n_tuple (by decide +kernel) (pa_cons (pe_lc (own := [("_law_x", 10)]) (g := (gName 10)) rfl sc_law.nd (pi_range1 rfl T.n_range (pa_cons (pv 3) pa_nil)) (blkOk_by (N := N_law) (sc := defScope s_law) (by decide +kernel)) (fun _ _ _ _ _ => (pg_name (i := 10) sc_law.nd rfl (by first | exact Or.inl rfl | exact Or.inr rfl))) (fun _ _ _ _ _ => (pts_one (pt_val (pe_ix (k_ix_list K) (pe_ix (k_ix_list K) (pv 6) (pv 8) (fun _ _ => rfl)) (pv 10) (fun _ _ => rfl))))) (fun _ _ _ _ _ => (pv 10))) pa_nil)))
  (pss_cons (ps_if (pt_not (pt_val (pe_call (ok__law_is T 1) (hr.mono (by omega)) rfl T.m__law_is T.F__law_is.kp T.b__law_is .nil pass0 (pa_cons (pe_call (G_reached) (hr.mono (by omega)) rfl T.m_reached T.F_reached.kp T.b_reached .nil pass0 (pa_cons (pv 5) (pa_cons (pv 8) pa_nil))) (pa_cons (pv 9) pa_nil)))))
    (pss_one (ps_ret pe_bl))
    pss_nil)
  (pss_cons (ps_if (pt_not (pt_val (pe_callB (cr_all rfl) (by rfl) T.n_all (by decide +kernel) (pa_cons (pe_lc (own := [("_law_x", 10)]) (g := (gName 10)) (tt := tYes) rfl sc_law.nd (pi_tup (pv 9)) (blkOk_by (N := N_law) (sc := defScope s_law) (by decide +kernel)) (fun _ _ _ _ _ => (pg_name (i := 10) sc_law.nd rfl (by first | exact Or.inl rfl | exact Or.inr rfl))) (fun _ _ _ _ _ => pts_nil) (fun _ _ _ _ _ => (pe_callB (k_cr_all K rfl) (by rfl) T.n_all (by decide +kernel) (pa_cons (pe_lc (own := [("_law_other", 12)]) (g := (gName 12)) (tt := tYes) rfl sc_law.nd (k_pi_tup K (pe_call (G_reached) (hr.mono (by omega)) rfl T.m_reached T.F_reached.kp T.b_reached .nil pass0 (pa_cons (pv 5) (pa_cons (pv 10) pa_nil)))) (blkOk_by (N := N_law) (by kernel_rfl)) (fun _ _ _ _ _ => (pg_name (i := 12) sc_law.nd rfl (by first | exact Or.inl rfl | exact Or.inr rfl))) (fun _ _ _ _ _ => pts_nil) (fun _ _ _ _ _ => (pe_cmpR (k_op_in_seq K) (pv 12) (pv 9) (by rfl)))) pa_nil)))) pa_nil))))
    (pss_one (ps_ret pe_bl))
    pss_nil)
  (pss_one (ps_if (pt_cmpR (op_neD hr.units) (pe_call (G_reached) (hr.mono (by omega)) rfl T.m_reached T.F_reached.kp T.b_reached .nil pass0 (pa_cons (pe_call (G_renamed) (hr.mono (by omega)) rfl T.m_renamed T.F_renamed.kp T.b_renamed .nil pass0 (pa_cons (pv 5) (pa_cons (pv 7) pa_nil))) (pa_cons (pe_ix ix_tup (pv 7) (pv 8) (fun _ _ => rfl)) pa_nil))) (pe_callTy call_tupleN (by rfl) T.n_tuple (by decide +kernel) (pa_cons (pe_callB cr_sortedIL (by rfl) T.n_sorted (by decide +kernel) (pa_cons (pe_lc (own := [("_law_x", 10)]) (g := (gName 10)) (tt := tYes) rfl sc_law.nd (pi_tup (pv 9)) (blkOk_by (N := N_law) (sc := defScope s_law) (by decide +kernel)) (fun _ _ _ _ _ => (pg_name (i := 10) sc_law.nd rfl (by first | exact Or.inl rfl | exact Or.inr rfl))) (fun _ _ _ _ _ => pts_nil) (fun _ _ _ _ _ => (pe_ix (k_ix_tup K) (pv 7) (pv 10) (fun _ _ => rfl)))) pa_nil)) pa_nil)) (nomark _))
    (pss_one (ps_ret pe_bl))
    pss_nil))))))
  (pss_one (ps_if (pt_not (pt_val (pe_call (G__law_flag) (hr.mono (by omega)) rfl T.m__law_flag T.F__law_flag.kp T.b__law_flag .nil pass0 (pa_cons (pe_call (G_is_strong) (hr.mono (by omega)) rfl T.m_is_strong T.F_is_strong.kp T.b_is_strong .nil pass0 (pa_cons (pv 5) pa_nil)) (pa_cons (pe_callB (cr_all rfl) (by rfl) T.n_all (by decide +kernel) (pa_cons (pe_lc (own := [("_law_row", 11)]) (g := (gName 11)) (tt := tYes) rfl sc_law.nd (pi_list (pv 6)) (blkOk_by (N := N_law) (sc := defScope s_law) (by decide +kernel)) (fun _ _ _ _ _ => (pg_name (i := 11) sc_law.nd rfl (by first | exact Or.inl rfl | exact Or.inr rfl))) (fun _ _ _ _ _ => pts_nil) (fun _ _ _ _ _ => (pe_callB (k_cr_all K rfl) (by rfl) T.n_all (by decide +kernel) (pa_cons (pv 11) pa_nil)))) pa_nil)) pa_nil)))))
    (pss_one (ps_ret pe_bl))
    pss_nil))))))))))
  (pss_one (ps_ret (pe_and (pe_cmpR op_is_bl (pe_call (G_is_strong) (hr.mono (by omega)) rfl T.m_is_strong T.F_is_strong.kp T.b_is_strong .nil pass0 (pa_cons (pe_make T.K_Web (G_Web_init) (hr.mono (by omega)) rfl T.m_Web T.b_Web_init .nil pass0 (pa_cons pe_int (pa_cons (pe_tupN pa_nil) pa_nil))) pa_nil)) pe_bl (nomark _)) (pe_one (pe_cmpR (op_eqD hr.units) (pe_call (G_reached) (hr.mono (by omega)) rfl T.m_reached T.F_reached.kp T.b_reached .nil pass0 (pa_cons (pe_make T.K_Web (G_Web_init) (hr.mono (by omega)) rfl T.m_Web T.b_Web_init .nil pass0 (pa_cons pe_int (pa_cons (pe_tupN (pa_cons (pe_tupN (pa_cons pe_int (pa_cons pe_int pa_nil))) pa_nil)) pa_nil))) (pa_cons pe_int pa_nil))) (pe_tupN (pa_cons pe_int pa_nil)) (nomark _)))))))), ?_⟩
  walk_at "ws"
  refine ⟨s, ns, rfl, hs, hl, fun hd c H1 g1 hh1 => ?_⟩
  walk_at "ws"
  refine i_rng1 (by decide) (by decide) ?_
  refine for_it walk_range (fun i σ H' => Hand H' hd c ∧ ∃ u2 u3 u4 u5 u6 u7 u8 u9 u10 u11 u12, σ = [some (.ref s), some (.ref hd), u2, u3, u4, u5, u6, u7, u8, u9, u10, u11, u12]) ⟨hh1, _, _, _, _, _, _, _, _, _, _, _, rfl⟩ (fun _ _ _ _ _ => trivial) ?_ ?_
  · rintro turn _ σ _ H2 hturn ⟨hh2, u2, u3, u4, u5, u6, u7, u8, u9, u10, u11, u12, rfl⟩ ⟨rfl, rfl⟩
    walk_at "ws"
    refine ⟨hd, c, 7, rfl, hh2, by decide, by decide, fun d H3 d0 d1 g3 hh3 => ?_⟩
    walk_at "ws"
    refine ⟨hd, c, 1 + d, rfl, hh3, by omega, by omega, fun wa0 ws0 H4 g4 hh4 hwa0 hw0 => ?_⟩
    -- the web, drawn or another one
    with_reducible refine w_seqM (fun σ H' => ∃ (m : Int) (wa : Addr) (ws : List (Int × Int)), (∃ u5 u6 u7 u8 u9 u10 u11 u12, σ = [some (.ref s), some (.ref hd), some (.int (0 + (turn : Int))), some (.int m), some (.ref wa), u5, u6, u7, u8, u9, u10, u11, u12]) ∧ Hand H' hd c ∧ Dp K H' (.ref wa) (dW ws) ∧ IsWeb m ws) (fun N kN => ?_) ?_
    · walk_at "ws"
      refine ⟨hd, c, 3, rfl, hh4, by decide, by decide, fun d2 H5 e0 e1 g5 hh5 => ?_⟩
      walk_at "ws"
      refine w_ite (fun e => ?_) (fun e => ?_)
      · walk_at "ws"
        refine ⟨hd, c, rfl, hh5, fun q p m ws H6 g6 hh6 hq hp hw => ?_⟩
        refine ⟨q, _, rfl, hq, rfl, ?_⟩
        refine ⟨_, _, rfl, ?_⟩
        walk_at "ws"
        refine ⟨_, _, rfl, ?_⟩
        walk_at "ws"
        exact ⟨rfl, kN _ _ ⟨m, p, ws, ⟨_, _, _, _, _, _, _, _, rfl⟩, hh6, hp, hw⟩⟩
      · walk_at "ws"
        exact kN _ _ ⟨1 + d, wa0, ws0, ⟨_, _, _, _, _, _, _, _, rfl⟩, hh5, dp_t g5.tups _ _ (nl_dW _) hwa0, hw0⟩
    clear hwa0 hw0 g4 hh4
    rintro σ H5 ⟨m, wa, ws, ⟨u5, u6, u7, u8, u9, u10, u11, u12, rfl⟩, hh5, hwa, hw⟩
    obtain ⟨n, rfl⟩ : ∃ n : Nat, m = (n : Int) := ⟨m.toNat, by have := hw.lo; omega⟩
    have n1 := hw.lo
    have n7 := hw.hi
    walk_at "ws"
    refine web_new hwa hw fun x H6 hx6 g6 hx => ?_
    walk_at "ws"
    refine ⟨(n : Int), wa, ws, rfl, hw, dp_t (g6 none).tups _ _ (nl_dW _) hwa, fun p rs f H7 g7 tab hf => ?_⟩
    rw [Int.toNat_natCast] at tab hf
    have hx := hx.n g7
    walk_at "ws"
    refine w_lstRg (w_rg1 ?_)
    walk_at "ws"
    refine ⟨RgOk.of_le (by decide) (by omega) (by decide) (by omega), fun l1 H8 hl1 g8 h8 => ?_⟩
    refine ⟨l1, _, rfl, SqL.of h8, fun l2 hl2 => ?_⟩
    have erg : (rgV 0 (n : Int)).reverse = (osr n).map V.int := by
      unfold rgV osr
      rw [List.map_reverse, List.map_map]
      congr 1
      have : ((n : Int) - 0).toNat = n := by omega
      rw [this]
      refine List.map_congr_left fun i _ => ?_
      show V.int (0 + ((i : Nat) : Int)) = V.int ((i : Nat) : Int)
      rw [Int.zero_add]
    rw [erg]
    have g9 : ∀ o, G o H8 (upd H8 l2 (.lst ((osr n).map V.int))) := fun _ => G.alloc hl2
    have h9 : (upd H8 l2 (.lst ((osr n).map V.int))) l2 = some (.lst ((osr n).map V.int)) := upd_same
    generalize upd H8 l2 (.lst ((osr n).map V.int)) = H9 at g9 h9 ⊢
    walk_at "ws"
    refine ⟨l2, _, rfl, .inl ⟨SqL.of h9, fun po HA hpo gA hA => ?_⟩⟩
    have g7A : G none H7 HA := ((g8 none).trans (g9 none)).trans (gA none)
    have hx := hx.n g7A
    have tab := tab.n g7A
    have hord : Dp K HA (.ref po) (dI (osr n)) := dp_ofI (SqT.of hA)
    have hhA : Hand HA hd c := by
      have e1 := (g6 (some (hd, c))).hand (hd, c) rfl hh5
      exact ((g7.trans g7A).up (o := some (hd, c))).hand (hd, c) rfl e1
    have io : IsOrd n (osr n) := osr_ord (by omega)
    clear g9 h9 g8 h8 gA g7 g7A g6 hwa
    walk_at "ws"
    refine i_rng1 (by omega) (by omega) ?_
    rw [Int.toNat_natCast]
    refine for_it walk_range (fun y σ H' => G none HA H' ∧ ∃ u8 u9 u10 u11 u12, σ = [some (.ref s), some (.ref hd), some (.int (0 + (turn : Int))), some (.int n), some (.ref wa), some (.ref x), some (.ref p), some (.ref po), u8, u9, u10, u11, u12]) ⟨G.refl, _, _, _, _, _, rfl⟩ (fun _ _ _ _ _ => trivial) ?_ ?_
    · rintro y _ σ _ HB hy ⟨gB, u8, u9, u10, u11, u12, rfl⟩ ⟨rfl, rfl⟩
      have ey : (0 : Int) + (y : Int) = (y : Int) := Int.zero_add _
      have hxB := hx.n gB
      have tabB := tab.n gB
      have hordB := (dp_n gB).1 _ _ hord
      walk_at "ws"
      refine i_rng1 (by omega) (by omega) ?_
      rw [Int.toNat_natCast]
      intro D hD
      refine lc_pure (K := K) (o := none) walk_range (by omega) hD (fun _ e => nomatch e) (fun i => if f y i = true then some (PyData.int (i : Int)) else none) (fun _ _ => trivial) ?_ ?_
      · rintro i _ _ HC hi gC ⟨rfl, rfl⟩ Qy Qn ky kn
        have tabC := tabB.n gC
        obtain ⟨ry, hry, hrowy, _⟩ := tabC.get hy
        have ei : (0 : Int) + (i : Int) = (i : Int) := Int.zero_add _
        walk_at "ws"
        refine ⟨rfl, ?_⟩
        walk_at "ws"
        refine r_ixL (SqL.of tabC.top) (tabC.at hry ey) ?_
        walk_at "ws"
        refine r_ixL (SqL.of hrowy) (row_at hi ei) ?_
        walk_at "ws"
        refine w_ite (fun e => ?_) (fun e => ?_)
        · walk_at "ws"
          exact ky _ _ _ G.refl (.int _) rfl (by rw [if_pos e, ei])
        · exact kn _ G.refl (by rw [if_neg (by rw [e]; decide)])
      intro xs HC gC hDC hds _
      have edue : ((List.range n).filterMap fun i => if f y i = true then some (PyData.int (i : Int)) else none) = (due n f y).map PyData.int := by
        unfold due
        rw [List.map_map]
        generalize List.range n = l
        induction l with
        | nil => rfl
        | cons a l ih =>
          rw [List.filterMap_cons, List.filter_cons]
          by_cases c : f y a = true
          · rw [if_pos c, if_pos c, List.map_cons, ← ih]; rfl
          · rw [if_neg c, if_neg c, ← ih]
      rw [edue] at hds
      have exs := DpAll.of_ints hds
      subst exs
      walk_at "ws"
      refine ⟨D, _, rfl, .inl ⟨SqL.of hDC, fun pd HD hpd gD hDD => ?_⟩⟩
      have gBD := gC.trans (gD none)
      have hxD := hxB.n gBD
      have hordD := (dp_n gBD).1 _ _ hordB
      have hdue : Dp K HD (.ref pd) (dI (due n f y)) := dp_ofI (SqT.of hDD)
      have gAD := gB.trans gBD
      have asc := due_asc (n := n) (f := f) (y := y)
      have dlen := due_len (n := n) (f := f) (y := y)
      clear hDC hDD gC gD gBD hxB tabB hordB
      walk_at "ws"
      refine ⟨x, n, ws, (y : Int), by simp only [ey]; rfl, hxD, hw, ⟨by omega, by omega⟩, fun pr rs2 HE hpr gE hpr2 asc2 mem2 => ?_⟩
      have ers : rs2 = due n f y := lt_eq asc2 asc fun z => by rw [mem2, due_reach hw hf hy]
      subst ers
      walk_at "ws"
      have hdueE := (dp_n gE).1 _ _ hdue
      refine ⟨.ref pr, .ref pd, dI (due n f y), rfl, .inr ⟨_, .inl rfl, by rw [List.length_map]; omega, fun e he => by
        obtain ⟨i, _, rfl⟩ := List.mem_map.mp he
        exact trivial⟩, hpr2, hdueE, fun HF gF => ?_⟩
      walk_at "ws"
      have hdueF := (dp_n gF).1 _ _ hdueE
      have gDF := gE.trans gF
      obtain ⟨pd', e, hdF⟩ := dp_dI hdueF
      cases e
      refine i_tup hdF ?_
      intro D2 hD2
      refine lc_pure (K := K) (o := none) (walk_tup (xs := (due n f y).map V.int)) (by rw [List.length_map]; omega) hD2 (fun _ e => nomatch e) (fun _ => some (PyData.bool true)) (fun H' g => sqT_t g.tups hdF) ?_ ?_
      · rintro i v _ HG hi gG ⟨rfl, hv⟩ Qy Qn ky kn
        rw [List.getElem?_map] at hv
        obtain ⟨z, hz, rfl⟩ := Option.map_eq_some_iff.mp hv
        have hzm := List.mem_of_getElem? hz
        have hzr := (due_reach hw hf hy).mp hzm
        have zr := reach_rng hw hzr ⟨by omega, by omega⟩
        walk_at "ws"
        refine ⟨rfl, ?_⟩
        walk_at "ws"
        refine ⟨x, n, ws, z, rfl, hxD.n (gDF.trans gG), hw, zr, fun p3 rs3 HI hp3 gI hp3d asc3 mem3 => ?_⟩
        obtain ⟨p3', e, h3t⟩ := dp_dI hp3d
        cases e
        have l3 : rs3.length ≤ 100 := by
          have := List.Nodup.length_le_of_subset (l₂ := (List.range 100).map fun i => ((i : Nat) : Int)) (asc3.imp fun h => by omega : rs3.Nodup) fun o ho => by
            have := reach_rng hw ((mem3 o).mp ho) zr
            exact List.mem_map.mpr ⟨o.toNat, List.mem_range.mpr (by omega), by omega⟩
          simpa using this
        refine i_tup h3t ?_
        intro D3 hD3
        refine lc_pure (K := K) (o := none) (walk_tup (xs := rs3.map V.int)) (by rw [List.length_map]; omega) hD3 (fun _ e => nomatch e) (fun _ => some (PyData.bool true)) (fun H' g => sqT_t g.tups h3t) ?_ ?_
        · rintro j v2 _ HJ hj gJ ⟨rfl, hv2⟩ Qy2 Qn2 ky2 kn2
          rw [List.getElem?_map] at hv2
          obtain ⟨o, ho, rfl⟩ := Option.map_eq_some_iff.mp hv2
          have hom : o ∈ due n f y := (due_reach hw hf hy).mpr (hzr.trans ((mem3 o).mp (List.mem_of_getElem? ho)))
          walk_at "ws"
          refine ⟨rfl, ?_⟩
          walk_at "ws"
          refine ⟨pd, _, rfl, .inr (sqT_t ((gG.trans gI).trans gJ).tups hdF), rfl, by
            rw [List.all_map, List.all_eq_true]; intro q _; rfl, ?_⟩
          have ein : inV (.int o) ((due n f y).map V.int) = true := by
            unfold inV
            rw [List.any_map, List.any_eq_true]
            exact ⟨o, hom, by simp [eqV]⟩
          rw [ein]
          exact ky2 _ _ _ G.refl (.bl true) rfl rfl
        · intro xs3 HJ gJ hDJ hdsJ _
          obtain ⟨bs, rfl, eb⟩ := bools_true hdsJ
          walk_at "ws"
          refine ⟨D3, bs, rfl, SqL.of hDJ, ?_⟩
          rw [eb]
          exact ky _ _ _ (gI.trans gJ) (.bl true) rfl rfl
      intro xs2 HG gG hDG hdsG _
      obtain ⟨bs, rfl, eb⟩ := bools_true hdsG
      walk_at "ws"
      refine ⟨D2, bs, rfl, SqL.of hDG, ?_⟩
      rw [eb]
      have gDG := gDF.trans gG
      walk_at "ws"
      refine ⟨x, po, n, ws, osr n, rfl, hxD.n gDG, hw, (dp_n gDG).1 _ _ hordD, io, fun x2 ws2 HI hx2 gI hx2w hw2 mem2' => ?_⟩
      have gDI := gDG.trans gI
      walk_at "ws"
      obtain ⟨po', e, hpoI⟩ := dp_dI ((dp_n gDI).1 _ _ hordD)
      cases e
      refine r_ixT hpoI (v := .int ((n : Int) - 1 - y)) (at_of (j := y) ey (by rw [List.getElem?_map, osr_at hy]; rfl)) ?_
      refine ⟨x2, n, ws2, (n : Int) - 1 - y, rfl, hx2w, hw2, ⟨by omega, by omega⟩, fun p4 rs4 HJ hp4 gJ hp4d asc4 mem4 => ?_⟩
      walk_at "ws"
      have gDJ := gDI.trans gJ
      have hdJ := sqT_t (gG.trans (gI.trans gJ)).tups hdF
      refine i_tup hdJ ?_
      intro D4 hD4
      refine lc_pure (K := K) (o := none) (walk_tup (xs := (due n f y).map V.int)) (by rw [List.length_map]; omega) hD4 (fun _ e => nomatch e) (fun i => (due n f y)[i]?.map fun z => PyData.int ((n : Int) - 1 - z)) (fun H' g => sqT_t g.tups hdJ) ?_ ?_
      · rintro i v _ HL hi gL ⟨rfl, hv⟩ Qy Qn ky kn
        rw [List.getElem?_map] at hv
        obtain ⟨z, hz, rfl⟩ := Option.map_eq_some_iff.mp hv
        have zr := reach_rng hw ((due_reach hw hf hy).mp (List.mem_of_getElem? hz)) ⟨by omega, by omega⟩
        walk_at "ws"
        refine ⟨rfl, ?_⟩
        walk_at "ws"
        refine r_ixT (sqT_t (gJ.trans gL).tups hpoI) (v := .int ((n : Int) - 1 - z)) (at_of (j := z.toNat) (by omega) (by
          rw [List.getElem?_map, osr_at (by omega)]
          have : ((z.toNat : Nat) : Int) = z := by omega
          rw [this]; rfl)) ?_
        exact ky _ _ _ G.refl (.int _) rfl (by rw [hz]; rfl)
      intro xs4 HL gL hDL hdsL _
      rw [List.length_map, filterMap_range_map] at hdsL
      have e4 : ((due n f y).map fun z => PyData.int ((n : Int) - 1 - z)) = ((due n f y).map fun z => (n : Int) - 1 - z).map PyData.int := by rw [List.map_map]; rfl
      rw [e4] at hdsL
      have exs4 := DpAll.of_ints hdsL
      subst exs4
      walk_at "ws"
      refine ⟨D4, _, rfl, SqL.of hDL, fun ns' pm pw l5 HM hl5 gM hM => ?_⟩
      walk_at "ws"
      refine ⟨l5, _, rfl, .inl ⟨SqL.of hM, fun p6 HN hp6 gN hN => ?_⟩⟩
      have ens : rs4 = ns' := lt_eq asc4 (by
        have nd : ns'.Nodup := pm.nodup_iff.mpr (List.pairwise_map.mpr (asc.imp fun h e => by omega))
        exact List.pairwise_iff_getElem.mpr fun i j hi hj hij => by
          have h1 := List.pairwise_iff_getElem.mp pw i j hi hj hij
          have h2 := List.pairwise_iff_getElem.mp nd i j hi hj hij
          omega) fun z => by
        rw [mem4, pm.mem_iff, List.mem_map]
        have hm' : ∀ u, u ∈ ws2 ↔ ∃ v ∈ ws, u = ((n : Int) - 1 - v.1, (n : Int) - 1 - v.2) := fun u => by
          rw [mem2']
          constructor
          · rintro ⟨v, hv, rfl⟩
            have := hw.mem v hv
            exact ⟨v, hv, by rw [osr_getD (by omega) (by omega), osr_getD (by omega) (by omega)]⟩
          · rintro ⟨v, hv, rfl⟩
            have := hw.mem v hv
            exact ⟨v, hv, by rw [osr_getD (by omega) (by omega), osr_getD (by omega) (by omega)]⟩
        rw [reach_ren hw hm']
        constructor
        · intro r
          exact ⟨_, (due_reach hw hf hy).mpr r, by omega⟩
        · rintro ⟨v, hv, rfl⟩
          have := (due_reach hw hf hy).mp hv
          have e : (n : Int) - 1 - (n - 1 - v) = v := by omega
          rw [e]; exact this
      subst ens
      refine ⟨dI rs4, dI rs4, (dp_n ((gL.trans (gM none)).trans (gN none))).1 _ _ hp4d, dp_ofI (SqT.of hN), sh_dI _, sh_dI _, ?_⟩
      rw [eqv_dI, decide_eq_true (rfl : rs4 = rs4)]
      walk_at "ws"
      exact ⟨gAD.trans ((gDJ.trans gL).trans ((gM none).trans (gN none))), _, _, _, _, _, rfl⟩
    · rintro σ HB ⟨gB, u8, u9, u10, u11, u12, rfl⟩
      have hxB := hx.n gB
      have tabB := tab.n gB
      have hhB : Hand HB hd c := (gB.up (o := some (hd, c))).hand (hd, c) rfl hhA
      walk_at "ws"
      refine ⟨x, n, ws, rfl, hxB, hw, fun b HC gC hb => ?_⟩
      have tabC := tabB.n gC
      walk_at "ws"
      refine i_list (SqL.of tabC.top) ?_
      intro D hD
      refine lc_pure (K := K) (o := none) (walk_list (xs := rs.map V.ref)) (by rw [List.length_map, tabC.len]; omega) hD (fun _ e => nomatch e) (fun i => some (PyData.bool (((List.range n).map (f i)).all id))) (fun H' g => sqL_n g (SqL.of tabC.top)) ?_ ?_
      · rintro i v _ HD hi gD ⟨rfl, hv⟩ Qy Qn ky kn
        rw [List.getElem?_map] at hv
        obtain ⟨r, hr', rfl⟩ := Option.map_eq_some_iff.mp hv
        have hrow := (tabC.n gD).row i r hr'
        walk_at "ws"
        refine ⟨rfl, ?_⟩
        walk_at "ws"
        refine ⟨r, (List.range n).map (f i), rfl, SqL.of (by rw [hrow]; unfold rowV; rw [List.map_map]; rfl), ?_⟩
        exact ky _ _ _ G.refl (.bl _) rfl rfl
      intro xs HD gD hDD hds _
      rw [List.length_map, tabC.len] at hds
      rw [bools_of hds] at hDD
      walk_at "ws"
      refine ⟨D, _, rfl, SqL.of hDD, ?_⟩
      refine ⟨b, _, rfl, ?_⟩
      have eb : b = ((List.range n).map fun i => ((List.range n).map (f i)).all id).all id := by
        rw [Bool.eq_iff_iff, hb, List.all_eq_true]
        constructor
        · intro h b' hb'
          obtain ⟨i, hi, rfl⟩ := List.mem_map.mp hb'
          show ((List.range n).map (f i)).all id = true
          rw [List.all_eq_true]
          intro b2 hb2
          obtain ⟨j, hj, rfl⟩ := List.mem_map.mp hb2
          have hi := List.mem_range.mp hi
          have hj := List.mem_range.mp hj
          exact (hf i j hi hj).mpr (h i j (by omega) (by omega) (by omega) (by omega))
        · intro h y z hy0 hy1 hz0 hz1
          have h1 := h (((List.range n).map (f y.toNat)).all id) (List.mem_map.mpr ⟨y.toNat, List.mem_range.mpr (by omega), rfl⟩)
          have h2 := List.all_eq_true.mp h1 (f y.toNat z.toNat) (List.mem_map.mpr ⟨z.toNat, List.mem_range.mpr (by omega), rfl⟩)
          have h3 := (hf y.toNat z.toNat (by omega) (by omega)).mp h2
          have e1 : ((y.toNat : Nat) : Int) = y := by omega
          have e2 : ((z.toNat : Nat) : Int) = z := by omega
          rw [e1, e2] at h3
          exact h3
      rw [decide_eq_true eb]
      walk_at "ws"
      exact ⟨((gC.trans gD).up (o := some (hd, c))).hand (hd, c) rfl hhB, _, _, _, _, _, _, _, _, _, _, _, rfl⟩
  · rintro σ H2 ⟨hh2, u2, u3, u4, u5, u6, u7, u8, u9, u10, u11, u12, rfl⟩
    walk_at "ws"
    refine ⟨sz (by simp), fun t1 H3 ht1 g3 h3 => ?_⟩
    walk_at "ws"
    have w1 : IsWeb 1 [] := ⟨by decide, by decide, (fun _ h => nomatch h), .nil⟩
    refine web_new (ws := []) (.tup (SqT.of h3) .nil) w1 fun x1 H4 hx1 g4 hx1w => ?_
    walk_at "ws"
    refine ⟨x1, 1, [], rfl, hx1w, w1, fun b H5 g5 hb => ?_⟩
    have eb : b = true := hb.mpr fun y z y0 y1 z0 z1 => by
      have : y = z := by omega
      rw [this]; exact .refl z
    subst eb
    walk_at "ws"
    refine ⟨true, true, rfl, rfl, ?_⟩
    walk_at "ws"
    refine w_iteE (by simp) ?_
    walk_at "ws"
    refine ⟨sz (by simp), fun t2 H6 ht2 g6 h6 => ?_⟩
    walk_at "ws"
    refine ⟨sz (by simp), fun t3 H7 ht3 g7 h7 => ?_⟩
    walk_at "ws"
    have w2 : IsWeb 2 [(1, 0)] := ⟨by decide, by decide, fun u hu => by
      have e : u = (1, 0) := by simpa using hu
      subst e
      simp only
      omega, List.pairwise_singleton _ _⟩
    refine web_new (ws := [(1, 0)]) (.tup (SqT.of h7) (.cons (dp_ofP (SqT.of ((g7 none).all _ _ h6))) .nil)) w2 fun x2 H8 hx2 g8 hx2w => ?_
    walk_at "ws"
    refine ⟨x2, 2, [(1, 0)], 0, rfl, hx2w, w2, ⟨by decide, by decide⟩, fun p rs H9 hp g9 hpd asc mem => ?_⟩
    have ers : rs = [0] := lt_eq asc (List.pairwise_singleton _ _) fun z => by
      rw [mem]
      constructor
      · intro r
        have : z = 0 := by
          induction r with
          | refl => rfl
          | @step z1 x1 _ d ih =>
            have e : (z1, x1) = ((1 : Int), (0 : Int)) := by simpa using d
            exact congrArg Prod.snd e
        simp [this]
      · intro h
        have e : z = 0 := by simpa using h
        rw [e]; exact .refl 0
    subst ers
    walk_at "ws"
    refine ⟨sz (by simp), fun t4 HA ht4 gA hA => ?_⟩
    refine ⟨dI [0], dI [0], (dp_n (gA none)).1 _ _ hpd, dp_ofI (ns := [0]) (SqT.of hA), sh_dI _, sh_dI _, ?_⟩
    rw [eqv_dI]
    exact k _

end
end Mine
/-! ## KN -/
end
namespace Mine
open PySem L2 GA
/-- what the head finds on the heap is what the proofs lean on -/
theorem all_mk {l : PySem.W.OpenLaw} {w : World} {K : PySem.W.Frag} {h : Heap} {mg : Str → Option Value} {fa : Addr} (X : K.In h) (G : h.Ns mainGlobals mg) (hfa : mg "law" = some (.ref fa))
    {ff_is_integer : Addr} {od_is_integer an_is_integer : Option Addr} {sl_is_integer : Array (Option Value)} {oc_is_integer kV_is_integer dc_is_integer pm_is_integer cd_is_integer ct_is_integer : Value}
    {ff_is_between : Addr} {od_is_between an_is_between : Option Addr} {sl_is_between : Array (Option Value)} {oc_is_between kV_is_between dc_is_between pm_is_between cd_is_between ct_is_between : Value}
    {ff_is_below : Addr} {od_is_below an_is_below : Option Addr} {sl_is_below : Array (Option Value)} {oc_is_below kV_is_below dc_is_below pm_is_below cd_is_below ct_is_below : Value}
    {ff_is_tuple_of : Addr} {od_is_tuple_of an_is_tuple_of : Option Addr} {sl_is_tuple_of : Array (Option Value)} {oc_is_tuple_of kV_is_tuple_of dc_is_tuple_of pm_is_tuple_of cd_is_tuple_of ct_is_tuple_of : Value}
    {ff_are_below : Addr} {od_are_below an_are_below : Option Addr} {sl_are_below : Array (Option Value)} {oc_are_below kV_are_below dc_are_below pm_are_below cd_are_below ct_are_below : Value}
    {ff_is_unlike_pair : Addr} {od_is_unlike_pair an_is_unlike_pair : Option Addr} {sl_is_unlike_pair : Array (Option Value)} {oc_is_unlike_pair kV_is_unlike_pair dc_is_unlike_pair pm_is_unlike_pair cd_is_unlike_pair ct_is_unlike_pair : Value}
    {ff_Web_init : Addr} {od_Web_init an_Web_init : Option Addr} {sl_Web_init : Array (Option Value)} {oc_Web_init kV_Web_init dc_Web_init pm_Web_init cd_Web_init ct_Web_init : Value}
    {ff_first_wrong_wire : Addr} {od_first_wrong_wire an_first_wrong_wire : Option Addr} {sl_first_wrong_wire : Array (Option Value)} {oc_first_wrong_wire kV_first_wrong_wire dc_first_wrong_wire pm_first_wrong_wire cd_first_wrong_wire ct_first_wrong_wire : Value}
    {ff_web_of_any_size : Addr} {od_web_of_any_size an_web_of_any_size : Option Addr} {sl_web_of_any_size : Array (Option Value)} {oc_web_of_any_size kV_web_of_any_size dc_web_of_any_size pm_web_of_any_size cd_web_of_any_size ct_web_of_any_size : Value}
    {ff_ways_from : Addr} {od_ways_from an_ways_from : Option Addr} {sl_ways_from : Array (Option Value)} {oc_ways_from kV_ways_from dc_ways_from pm_ways_from cd_ways_from ct_ways_from : Value}
    {ff_renamed : Addr} {od_renamed an_renamed : Option Addr} {sl_renamed : Array (Option Value)} {oc_renamed kV_renamed dc_renamed pm_renamed cd_renamed ct_renamed : Value}
    {ff_is_order : Addr} {od_is_order an_is_order : Option Addr} {sl_is_order : Array (Option Value)} {oc_is_order kV_is_order dc_is_order pm_is_order cd_is_order ct_is_order : Value}
    {ff_check_machine : Addr} {od_check_machine an_check_machine : Option Addr} {sl_check_machine : Array (Option Value)} {oc_check_machine kV_check_machine dc_check_machine pm_check_machine cd_check_machine ct_check_machine : Value}
    {ff_reached : Addr} {od_reached an_reached : Option Addr} {sl_reached : Array (Option Value)} {oc_reached kV_reached dc_reached pm_reached cd_reached ct_reached : Value}
    {ff_is_strong : Addr} {od_is_strong an_is_strong : Option Addr} {sl_is_strong : Array (Option Value)} {oc_is_strong kV_is_strong dc_is_strong pm_is_strong cd_is_strong ct_is_strong : Value}
    {ff__law_hand : Addr} {od__law_hand an__law_hand : Option Addr} {sl__law_hand : Array (Option Value)} {oc__law_hand kV__law_hand dc__law_hand pm__law_hand cd__law_hand ct__law_hand : Value}
    {ff__law_draw : Addr} {od__law_draw an__law_draw : Option Addr} {sl__law_draw : Array (Option Value)} {oc__law_draw kV__law_draw dc__law_draw pm__law_draw cd__law_draw ct__law_draw : Value}
    {ff__law_is : Addr} {od__law_is an__law_is : Option Addr} {sl__law_is : Array (Option Value)} {oc__law_is kV__law_is dc__law_is pm__law_is cd__law_is ct__law_is : Value}
    {ff__law_flag : Addr} {od__law_flag an__law_flag : Option Addr} {sl__law_flag : Array (Option Value)} {oc__law_flag kV__law_flag dc__law_flag pm__law_flag cd__law_flag ct__law_flag : Value}
    {ff__law_web : Addr} {od__law_web an__law_web : Option Addr} {sl__law_web : Array (Option Value)} {oc__law_web kV__law_web dc__law_web pm__law_web cd__law_web ct__law_web : Value}
    {ff__law_table : Addr} {od__law_table an__law_table : Option Addr} {sl__law_table : Array (Option Value)} {oc__law_table kV__law_table dc__law_table pm__law_table cd__law_table ct__law_table : Value}
    {ff__law_more : Addr} {od__law_more an__law_more : Option Addr} {sl__law_more : Array (Option Value)} {oc__law_more kV__law_more dc__law_more pm__law_more cd__law_more ct__law_more : Value}
    {ff_law : Addr} {od_law an_law : Option Addr} {sl_law : Array (Option Value)} {oc_law kV_law dc_law pm_law cd_law ct_law : Value}
    {C_Web : Addr}
    {tk_MOST_MACHINES : Tok}
    (aC_Web : PySem.W.nsIn K mainGlobals "Web" = some (some (.ref C_Web)))
    (a_is_integer : PySem.W.nsIn K mainGlobals "is_integer" = some (some (.ref ff_is_integer)))
    (l_is_integer : K.lookup ff_is_integer = some ⟨oc_is_integer, od_is_integer, .func (PySem.W.fnOf "is_integer" "is_integer" (defArgs s_is_integer) (defBody s_is_integer) (defScope s_is_integer) .none kV_is_integer dc_is_integer pm_is_integer an_is_integer cd_is_integer ct_is_integer), sl_is_integer⟩)
    (c_is_integer : PySem.W.codeIn K cd_is_integer "is_integer" = true)
    (k_is_integer : PySem.W.keepIn K (.ref ff_is_integer) = true)
    (a_is_between : PySem.W.nsIn K mainGlobals "is_between" = some (some (.ref ff_is_between)))
    (l_is_between : K.lookup ff_is_between = some ⟨oc_is_between, od_is_between, .func (PySem.W.fnOf "is_between" "is_between" (defArgs s_is_between) (defBody s_is_between) (defScope s_is_between) .none kV_is_between dc_is_between pm_is_between an_is_between cd_is_between ct_is_between), sl_is_between⟩)
    (c_is_between : PySem.W.codeIn K cd_is_between "is_between" = true)
    (k_is_between : PySem.W.keepIn K (.ref ff_is_between) = true)
    (a_is_below : PySem.W.nsIn K mainGlobals "is_below" = some (some (.ref ff_is_below)))
    (l_is_below : K.lookup ff_is_below = some ⟨oc_is_below, od_is_below, .func (PySem.W.fnOf "is_below" "is_below" (defArgs s_is_below) (defBody s_is_below) (defScope s_is_below) .none kV_is_below dc_is_below pm_is_below an_is_below cd_is_below ct_is_below), sl_is_below⟩)
    (c_is_below : PySem.W.codeIn K cd_is_below "is_below" = true)
    (k_is_below : PySem.W.keepIn K (.ref ff_is_below) = true)
    (a_is_tuple_of : PySem.W.nsIn K mainGlobals "is_tuple_of" = some (some (.ref ff_is_tuple_of)))
    (l_is_tuple_of : K.lookup ff_is_tuple_of = some ⟨oc_is_tuple_of, od_is_tuple_of, .func (PySem.W.fnOf "is_tuple_of" "is_tuple_of" (defArgs s_is_tuple_of) (defBody s_is_tuple_of) (defScope s_is_tuple_of) .none kV_is_tuple_of dc_is_tuple_of pm_is_tuple_of an_is_tuple_of cd_is_tuple_of ct_is_tuple_of), sl_is_tuple_of⟩)
    (c_is_tuple_of : PySem.W.codeIn K cd_is_tuple_of "is_tuple_of" = true)
    (k_is_tuple_of : PySem.W.keepIn K (.ref ff_is_tuple_of) = true)
    (a_are_below : PySem.W.nsIn K mainGlobals "are_below" = some (some (.ref ff_are_below)))
    (l_are_below : K.lookup ff_are_below = some ⟨oc_are_below, od_are_below, .func (PySem.W.fnOf "are_below" "are_below" (defArgs s_are_below) (defBody s_are_below) (defScope s_are_below) .none kV_are_below dc_are_below pm_are_below an_are_below cd_are_below ct_are_below), sl_are_below⟩)
    (c_are_below : PySem.W.codeIn K cd_are_below "are_below" = true)
    (k_are_below : PySem.W.keepIn K (.ref ff_are_below) = true)
    (a_is_unlike_pair : PySem.W.nsIn K mainGlobals "is_unlike_pair" = some (some (.ref ff_is_unlike_pair)))
    (l_is_unlike_pair : K.lookup ff_is_unlike_pair = some ⟨oc_is_unlike_pair, od_is_unlike_pair, .func (PySem.W.fnOf "is_unlike_pair" "is_unlike_pair" (defArgs s_is_unlike_pair) (defBody s_is_unlike_pair) (defScope s_is_unlike_pair) .none kV_is_unlike_pair dc_is_unlike_pair pm_is_unlike_pair an_is_unlike_pair cd_is_unlike_pair ct_is_unlike_pair), sl_is_unlike_pair⟩)
    (c_is_unlike_pair : PySem.W.codeIn K cd_is_unlike_pair "is_unlike_pair" = true)
    (k_is_unlike_pair : PySem.W.keepIn K (.ref ff_is_unlike_pair) = true)
    (a_Web_init : PySem.W.findIn K (.ref C_Web) "__init__" = some (some (.ref ff_Web_init)))
    (i_Web_init : PySem.W.isFn K (.ref ff_Web_init) = true)
    (l_Web_init : K.lookup ff_Web_init = some ⟨oc_Web_init, od_Web_init, .func (PySem.W.fnOf "__init__" "Web.__init__" (defArgs s_Web_init) (defBody s_Web_init) (defScope s_Web_init) .none kV_Web_init dc_Web_init pm_Web_init an_Web_init cd_Web_init ct_Web_init), sl_Web_init⟩)
    (c_Web_init : PySem.W.codeIn K cd_Web_init "Web.__init__" = true)
    (k_Web_init : PySem.W.keepIn K (.ref ff_Web_init) = true)
    (a_first_wrong_wire : PySem.W.nsIn K mainGlobals "first_wrong_wire" = some (some (.ref ff_first_wrong_wire)))
    (l_first_wrong_wire : K.lookup ff_first_wrong_wire = some ⟨oc_first_wrong_wire, od_first_wrong_wire, .func (PySem.W.fnOf "first_wrong_wire" "first_wrong_wire" (defArgs s_first_wrong_wire) (defBody s_first_wrong_wire) (defScope s_first_wrong_wire) .none kV_first_wrong_wire dc_first_wrong_wire pm_first_wrong_wire an_first_wrong_wire cd_first_wrong_wire ct_first_wrong_wire), sl_first_wrong_wire⟩)
    (c_first_wrong_wire : PySem.W.codeIn K cd_first_wrong_wire "first_wrong_wire" = true)
    (k_first_wrong_wire : PySem.W.keepIn K (.ref ff_first_wrong_wire) = true)
    (a_web_of_any_size : PySem.W.nsIn K mainGlobals "web_of_any_size" = some (some (.ref ff_web_of_any_size)))
    (l_web_of_any_size : K.lookup ff_web_of_any_size = some ⟨oc_web_of_any_size, od_web_of_any_size, .func (PySem.W.fnOf "web_of_any_size" "web_of_any_size" (defArgs s_web_of_any_size) (defBody s_web_of_any_size) (defScope s_web_of_any_size) .none kV_web_of_any_size dc_web_of_any_size pm_web_of_any_size an_web_of_any_size cd_web_of_any_size ct_web_of_any_size), sl_web_of_any_size⟩)
    (c_web_of_any_size : PySem.W.codeIn K cd_web_of_any_size "web_of_any_size" = true)
    (k_web_of_any_size : PySem.W.keepIn K (.ref ff_web_of_any_size) = true)
    (a_ways_from : PySem.W.nsIn K mainGlobals "ways_from" = some (some (.ref ff_ways_from)))
    (l_ways_from : K.lookup ff_ways_from = some ⟨oc_ways_from, od_ways_from, .func (PySem.W.fnOf "ways_from" "ways_from" (defArgs s_ways_from) (defBody s_ways_from) (defScope s_ways_from) .none kV_ways_from dc_ways_from pm_ways_from an_ways_from cd_ways_from ct_ways_from), sl_ways_from⟩)
    (c_ways_from : PySem.W.codeIn K cd_ways_from "ways_from" = true)
    (k_ways_from : PySem.W.keepIn K (.ref ff_ways_from) = true)
    (a_renamed : PySem.W.nsIn K mainGlobals "renamed" = some (some (.ref ff_renamed)))
    (l_renamed : K.lookup ff_renamed = some ⟨oc_renamed, od_renamed, .func (PySem.W.fnOf "renamed" "renamed" (defArgs s_renamed) (defBody s_renamed) (defScope s_renamed) .none kV_renamed dc_renamed pm_renamed an_renamed cd_renamed ct_renamed), sl_renamed⟩)
    (c_renamed : PySem.W.codeIn K cd_renamed "renamed" = true)
    (k_renamed : PySem.W.keepIn K (.ref ff_renamed) = true)
    (a_is_order : PySem.W.nsIn K mainGlobals "is_order" = some (some (.ref ff_is_order)))
    (l_is_order : K.lookup ff_is_order = some ⟨oc_is_order, od_is_order, .func (PySem.W.fnOf "is_order" "is_order" (defArgs s_is_order) (defBody s_is_order) (defScope s_is_order) .none kV_is_order dc_is_order pm_is_order an_is_order cd_is_order ct_is_order), sl_is_order⟩)
    (c_is_order : PySem.W.codeIn K cd_is_order "is_order" = true)
    (k_is_order : PySem.W.keepIn K (.ref ff_is_order) = true)
    (a_check_machine : PySem.W.nsIn K mainGlobals "check_machine" = some (some (.ref ff_check_machine)))
    (l_check_machine : K.lookup ff_check_machine = some ⟨oc_check_machine, od_check_machine, .func (PySem.W.fnOf "check_machine" "check_machine" (defArgs s_check_machine) (defBody s_check_machine) (defScope s_check_machine) .none kV_check_machine dc_check_machine pm_check_machine an_check_machine cd_check_machine ct_check_machine), sl_check_machine⟩)
    (c_check_machine : PySem.W.codeIn K cd_check_machine "check_machine" = true)
    (k_check_machine : PySem.W.keepIn K (.ref ff_check_machine) = true)
    (a_reached : PySem.W.nsIn K mainGlobals "reached" = some (some (.ref ff_reached)))
    (l_reached : K.lookup ff_reached = some ⟨oc_reached, od_reached, .func (PySem.W.fnOf "reached" "reached" (defArgs s_reached) (defBody s_reached) (defScope s_reached) .none kV_reached dc_reached pm_reached an_reached cd_reached ct_reached), sl_reached⟩)
    (c_reached : PySem.W.codeIn K cd_reached "reached" = true)
    (k_reached : PySem.W.keepIn K (.ref ff_reached) = true)
    (a_is_strong : PySem.W.nsIn K mainGlobals "is_strong" = some (some (.ref ff_is_strong)))
    (l_is_strong : K.lookup ff_is_strong = some ⟨oc_is_strong, od_is_strong, .func (PySem.W.fnOf "is_strong" "is_strong" (defArgs s_is_strong) (defBody s_is_strong) (defScope s_is_strong) .none kV_is_strong dc_is_strong pm_is_strong an_is_strong cd_is_strong ct_is_strong), sl_is_strong⟩)
    (c_is_strong : PySem.W.codeIn K cd_is_strong "is_strong" = true)
    (k_is_strong : PySem.W.keepIn K (.ref ff_is_strong) = true)
    (a__law_hand : PySem.W.nsIn K mainGlobals "_law_hand" = some (some (.ref ff__law_hand)))
    (l__law_hand : K.lookup ff__law_hand = some ⟨oc__law_hand, od__law_hand, .func (PySem.W.fnOf "_law_hand" "_law_hand" (defArgs s__law_hand) (defBody s__law_hand) (defScope s__law_hand) .none kV__law_hand dc__law_hand pm__law_hand an__law_hand cd__law_hand ct__law_hand), sl__law_hand⟩)
    (c__law_hand : PySem.W.codeIn K cd__law_hand "_law_hand" = true)
    (k__law_hand : PySem.W.keepIn K (.ref ff__law_hand) = true)
    (a__law_draw : PySem.W.nsIn K mainGlobals "_law_draw" = some (some (.ref ff__law_draw)))
    (l__law_draw : K.lookup ff__law_draw = some ⟨oc__law_draw, od__law_draw, .func (PySem.W.fnOf "_law_draw" "_law_draw" (defArgs s__law_draw) (defBody s__law_draw) (defScope s__law_draw) .none kV__law_draw dc__law_draw pm__law_draw an__law_draw cd__law_draw ct__law_draw), sl__law_draw⟩)
    (c__law_draw : PySem.W.codeIn K cd__law_draw "_law_draw" = true)
    (k__law_draw : PySem.W.keepIn K (.ref ff__law_draw) = true)
    (a__law_is : PySem.W.nsIn K mainGlobals "_law_is" = some (some (.ref ff__law_is)))
    (l__law_is : K.lookup ff__law_is = some ⟨oc__law_is, od__law_is, .func (PySem.W.fnOf "_law_is" "_law_is" (defArgs s__law_is) (defBody s__law_is) (defScope s__law_is) .none kV__law_is dc__law_is pm__law_is an__law_is cd__law_is ct__law_is), sl__law_is⟩)
    (c__law_is : PySem.W.codeIn K cd__law_is "_law_is" = true)
    (k__law_is : PySem.W.keepIn K (.ref ff__law_is) = true)
    (a__law_flag : PySem.W.nsIn K mainGlobals "_law_flag" = some (some (.ref ff__law_flag)))
    (l__law_flag : K.lookup ff__law_flag = some ⟨oc__law_flag, od__law_flag, .func (PySem.W.fnOf "_law_flag" "_law_flag" (defArgs s__law_flag) (defBody s__law_flag) (defScope s__law_flag) .none kV__law_flag dc__law_flag pm__law_flag an__law_flag cd__law_flag ct__law_flag), sl__law_flag⟩)
    (c__law_flag : PySem.W.codeIn K cd__law_flag "_law_flag" = true)
    (k__law_flag : PySem.W.keepIn K (.ref ff__law_flag) = true)
    (a__law_web : PySem.W.nsIn K mainGlobals "_law_web" = some (some (.ref ff__law_web)))
    (l__law_web : K.lookup ff__law_web = some ⟨oc__law_web, od__law_web, .func (PySem.W.fnOf "_law_web" "_law_web" (defArgs s__law_web) (defBody s__law_web) (defScope s__law_web) .none kV__law_web dc__law_web pm__law_web an__law_web cd__law_web ct__law_web), sl__law_web⟩)
    (c__law_web : PySem.W.codeIn K cd__law_web "_law_web" = true)
    (k__law_web : PySem.W.keepIn K (.ref ff__law_web) = true)
    (a__law_table : PySem.W.nsIn K mainGlobals "_law_table" = some (some (.ref ff__law_table)))
    (l__law_table : K.lookup ff__law_table = some ⟨oc__law_table, od__law_table, .func (PySem.W.fnOf "_law_table" "_law_table" (defArgs s__law_table) (defBody s__law_table) (defScope s__law_table) .none kV__law_table dc__law_table pm__law_table an__law_table cd__law_table ct__law_table), sl__law_table⟩)
    (c__law_table : PySem.W.codeIn K cd__law_table "_law_table" = true)
    (k__law_table : PySem.W.keepIn K (.ref ff__law_table) = true)
    (a__law_more : PySem.W.nsIn K mainGlobals "_law_more" = some (some (.ref ff__law_more)))
    (l__law_more : K.lookup ff__law_more = some ⟨oc__law_more, od__law_more, .func (PySem.W.fnOf "_law_more" "_law_more" (defArgs s__law_more) (defBody s__law_more) (defScope s__law_more) .none kV__law_more dc__law_more pm__law_more an__law_more cd__law_more ct__law_more), sl__law_more⟩)
    (c__law_more : PySem.W.codeIn K cd__law_more "_law_more" = true)
    (k__law_more : PySem.W.keepIn K (.ref ff__law_more) = true)
    (a_law : PySem.W.nsIn K mainGlobals "law" = some (some (.ref ff_law)))
    (l_law : K.lookup ff_law = some ⟨oc_law, od_law, .func (PySem.W.fnOf "law" "law" (defArgs s_law) (defBody s_law) (defScope s_law) .none kV_law dc_law pm_law an_law cd_law ct_law), sl_law⟩)
    (c_law : PySem.W.codeIn K cd_law "law" = true)
    (k_law : PySem.W.keepIn K (.ref ff_law) = true)
    (pg_Web : PySem.W.plainGet K C_Web Str.empty = true)
    (hd_Web : PySem.W.hasDictIn K C_Web = true)
    (po_Web : PySem.W.plainOver K C_Web = true)
    (sa_Web : PySem.W.findIn K (.ref C_Web) "__setattr__" = some (some (.builtin "object.__setattr__")))
    (mk_Web : PySem.W.makesIn K C_Web = true)
    (kc_Web : PySem.W.keepIn K (.ref C_Web) = true)
    (na_Web_machines : PySem.W.findIn K (.ref C_Web) "machines" = some none)
    (na_Web_wires : PySem.W.findIn K (.ref C_Web) "wires" = some none)
    (co_MOST_MACHINES : PySem.W.nsIn K mainGlobals "MOST_MACHINES" = some (some (.int 7 tk_MOST_MACHINES)))
    (z_isinstance : PySem.W.nsIn K mainGlobals "isinstance" = some none)
    (z_int : PySem.W.nsIn K mainGlobals "int" = some none)
    (z_bool : PySem.W.nsIn K mainGlobals "bool" = some none)
    (z_tuple : PySem.W.nsIn K mainGlobals "tuple" = some none)
    (z_len : PySem.W.nsIn K mainGlobals "len" = some none)
    (z_all : PySem.W.nsIn K mainGlobals "all" = some none)
    (z_enumerate : PySem.W.nsIn K mainGlobals "enumerate" = some none)
    (z_sorted : PySem.W.nsIn K mainGlobals "sorted" = some none)
    (z_set : PySem.W.nsIn K mainGlobals "set" = some none)
    (z_list : PySem.W.nsIn K mainGlobals "list" = some none)
    (z_range : PySem.W.nsIn K mainGlobals "range" = some none)
    (z_zip : PySem.W.nsIn K mainGlobals "zip" = some none)
    (z_abs : PySem.W.nsIn K mainGlobals "abs" = some none)
    (z_min : PySem.W.nsIn K mainGlobals "min" = some none)
    : ∃ fd : FuncData, (∀ (s : Shared) (v : Value), BindsTo s fd ⟨[v], []⟩ [("_law_script", v)]) ∧ ∀ base : Heap, K.In base → base.Ns mainGlobals mg → FnOk l.prog w K mg base CX0 12 fa fd ["_law_script"] (spLaw K) := by
  have e := hfa.symm.trans (PySem.W.mg_of X G a_law)
  cases e
  have F_is_integer := fun_mk (st := s_is_integer) l_is_integer c_is_integer k_is_integer
  have b_is_integer := F_is_integer.binds (ps := P_is_integer) fun _ _ _ _ _ _ us hl => match us, hl with | [_], _ => rfl
  have F_is_between := fun_mk (st := s_is_between) l_is_between c_is_between k_is_between
  have b_is_between := F_is_between.binds (ps := P_is_between) fun _ _ _ _ _ _ us hl => match us, hl with | [_, _, _], _ => rfl
  have F_is_below := fun_mk (st := s_is_below) l_is_below c_is_below k_is_below
  have b_is_below := F_is_below.binds (ps := P_is_below) fun _ _ _ _ _ _ us hl => match us, hl with | [_, _], _ => rfl
  have F_is_tuple_of := fun_mk (st := s_is_tuple_of) l_is_tuple_of c_is_tuple_of k_is_tuple_of
  have b_is_tuple_of := F_is_tuple_of.binds (ps := P_is_tuple_of) fun _ _ _ _ _ _ us hl => match us, hl with | [_, _, _], _ => rfl
  have F_are_below := fun_mk (st := s_are_below) l_are_below c_are_below k_are_below
  have b_are_below := F_are_below.binds (ps := P_are_below) fun _ _ _ _ _ _ us hl => match us, hl with | [_, _], _ => rfl
  have F_is_unlike_pair := fun_mk (st := s_is_unlike_pair) l_is_unlike_pair c_is_unlike_pair k_is_unlike_pair
  have b_is_unlike_pair := F_is_unlike_pair.binds (ps := P_is_unlike_pair) fun _ _ _ _ _ _ us hl => match us, hl with | [_, _], _ => rfl
  have F_Web_init := fun_mk (st := s_Web_init) l_Web_init c_Web_init k_Web_init
  have b_Web_init := F_Web_init.binds (ps := P_Web_init) fun _ _ _ _ _ _ us hl => match us, hl with | [_, _, _], _ => rfl
  have F_first_wrong_wire := fun_mk (st := s_first_wrong_wire) l_first_wrong_wire c_first_wrong_wire k_first_wrong_wire
  have b_first_wrong_wire := F_first_wrong_wire.binds (ps := P_first_wrong_wire) fun _ _ _ _ _ _ us hl => match us, hl with | [_, _], _ => rfl
  have F_web_of_any_size := fun_mk (st := s_web_of_any_size) l_web_of_any_size c_web_of_any_size k_web_of_any_size
  have b_web_of_any_size := F_web_of_any_size.binds (ps := P_web_of_any_size) fun _ _ _ _ _ _ us hl => match us, hl with | [_, _], _ => rfl
  have F_ways_from := fun_mk (st := s_ways_from) l_ways_from c_ways_from k_ways_from
  have b_ways_from := F_ways_from.binds (ps := P_ways_from) fun _ _ _ _ _ _ us hl => match us, hl with | [_, _], _ => rfl
  have F_renamed := fun_mk (st := s_renamed) l_renamed c_renamed k_renamed
  have b_renamed := F_renamed.binds (ps := P_renamed) fun _ _ _ _ _ _ us hl => match us, hl with | [_, _], _ => rfl
  have F_is_order := fun_mk (st := s_is_order) l_is_order c_is_order k_is_order
  have b_is_order := F_is_order.binds (ps := P_is_order) fun _ _ _ _ _ _ us hl => match us, hl with | [_, _], _ => rfl
  have F_check_machine := fun_mk (st := s_check_machine) l_check_machine c_check_machine k_check_machine
  have b_check_machine := F_check_machine.binds (ps := P_check_machine) fun _ _ _ _ _ _ us hl => match us, hl with | [_, _], _ => rfl
  have F_reached := fun_mk (st := s_reached) l_reached c_reached k_reached
  have b_reached := F_reached.binds (ps := P_reached) fun _ _ _ _ _ _ us hl => match us, hl with | [_, _], _ => rfl
  have F_is_strong := fun_mk (st := s_is_strong) l_is_strong c_is_strong k_is_strong
  have b_is_strong := F_is_strong.binds (ps := P_is_strong) fun _ _ _ _ _ _ us hl => match us, hl with | [_], _ => rfl
  have F__law_hand := fun_mk (st := s__law_hand) l__law_hand c__law_hand k__law_hand
  have b__law_hand := F__law_hand.binds (ps := P__law_hand) fun _ _ _ _ _ _ us hl => match us, hl with | [_], _ => rfl
  have F__law_draw := fun_mk (st := s__law_draw) l__law_draw c__law_draw k__law_draw
  have b__law_draw := F__law_draw.binds (ps := P__law_draw) fun _ _ _ _ _ _ us hl => match us, hl with | [_, _], _ => rfl
  have F__law_is := fun_mk (st := s__law_is) l__law_is c__law_is k__law_is
  have b__law_is := F__law_is.binds (ps := P__law_is) fun _ _ _ _ _ _ us hl => match us, hl with | [_, _], _ => rfl
  have F__law_flag := fun_mk (st := s__law_flag) l__law_flag c__law_flag k__law_flag
  have b__law_flag := F__law_flag.binds (ps := P__law_flag) fun _ _ _ _ _ _ us hl => match us, hl with | [_, _], _ => rfl
  have F__law_web := fun_mk (st := s__law_web) l__law_web c__law_web k__law_web
  have b__law_web := F__law_web.binds (ps := P__law_web) fun _ _ _ _ _ _ us hl => match us, hl with | [_, _], _ => rfl
  have F__law_table := fun_mk (st := s__law_table) l__law_table c__law_table k__law_table
  have b__law_table := F__law_table.binds (ps := P__law_table) fun _ _ _ _ _ _ us hl => match us, hl with | [_, _], _ => rfl
  have F__law_more := fun_mk (st := s__law_more) l__law_more c__law_more k__law_more
  have b__law_more := F__law_more.binds (ps := P__law_more) fun _ _ _ _ _ _ us hl => match us, hl with | [_], _ => rfl
  have F_law := fun_mk (st := s_law) l_law c_law k_law
  have b_law := F_law.binds (ps := P_law) fun _ _ _ _ _ _ us hl => match us, hl with | [_], _ => rfl
  have T : Txt K mg ⟨ff_is_integer, _, ff_is_between, _, ff_is_below, _, ff_is_tuple_of, _, ff_are_below, _, ff_is_unlike_pair, _, ff_Web_init, _, ff_first_wrong_wire, _, ff_web_of_any_size, _, ff_ways_from, _, ff_renamed, _, ff_is_order, _, ff_check_machine, _, ff_reached, _, ff_is_strong, _, ff__law_hand, _, ff__law_draw, _, ff__law_is, _, ff__law_flag, _, ff__law_web, _, ff__law_table, _, ff__law_more, _, fa, _, C_Web, tk_MOST_MACHINES⟩ := ⟨F_is_integer,
    b_is_integer,
    PySem.W.mg_of X G a_is_integer,
    F_is_between,
    b_is_between,
    PySem.W.mg_of X G a_is_between,
    F_is_below,
    b_is_below,
    PySem.W.mg_of X G a_is_below,
    F_is_tuple_of,
    b_is_tuple_of,
    PySem.W.mg_of X G a_is_tuple_of,
    F_are_below,
    b_are_below,
    PySem.W.mg_of X G a_are_below,
    F_is_unlike_pair,
    b_is_unlike_pair,
    PySem.W.mg_of X G a_is_unlike_pair,
    F_Web_init,
    b_Web_init,
    F_first_wrong_wire,
    b_first_wrong_wire,
    PySem.W.mg_of X G a_first_wrong_wire,
    F_web_of_any_size,
    b_web_of_any_size,
    PySem.W.mg_of X G a_web_of_any_size,
    F_ways_from,
    b_ways_from,
    PySem.W.mg_of X G a_ways_from,
    F_renamed,
    b_renamed,
    PySem.W.mg_of X G a_renamed,
    F_is_order,
    b_is_order,
    PySem.W.mg_of X G a_is_order,
    F_check_machine,
    b_check_machine,
    PySem.W.mg_of X G a_check_machine,
    F_reached,
    b_reached,
    PySem.W.mg_of X G a_reached,
    F_is_strong,
    b_is_strong,
    PySem.W.mg_of X G a_is_strong,
    F__law_hand,
    b__law_hand,
    PySem.W.mg_of X G a__law_hand,
    F__law_draw,
    b__law_draw,
    PySem.W.mg_of X G a__law_draw,
    F__law_is,
    b__law_is,
    PySem.W.mg_of X G a__law_is,
    F__law_flag,
    b__law_flag,
    PySem.W.mg_of X G a__law_flag,
    F__law_web,
    b__law_web,
    PySem.W.mg_of X G a__law_web,
    F__law_table,
    b__law_table,
    PySem.W.mg_of X G a__law_table,
    F__law_more,
    b__law_more,
    PySem.W.mg_of X G a__law_more,
    F_law,
    b_law,
    PySem.W.mg_of X G a_law,
    PySem.W.mg_of X G aC_Web,
    ⟨pg_Web, hd_Web, po_Web, sa_Web⟩,
    ⟨mk_Web, a_Web_init, i_Web_init, kc_Web⟩,
    na_Web_machines,
    na_Web_wires,
    PySem.W.mg_of X G co_MOST_MACHINES,
    PySem.W.mg_none_of X G z_isinstance,
    PySem.W.mg_none_of X G z_int,
    PySem.W.mg_none_of X G z_bool,
    PySem.W.mg_none_of X G z_tuple,
    PySem.W.mg_none_of X G z_len,
    PySem.W.mg_none_of X G z_all,
    PySem.W.mg_none_of X G z_enumerate,
    PySem.W.mg_none_of X G z_sorted,
    PySem.W.mg_none_of X G z_set,
    PySem.W.mg_none_of X G z_list,
    PySem.W.mg_none_of X G z_range,
    PySem.W.mg_none_of X G z_zip,
    PySem.W.mg_none_of X G z_abs,
    PySem.W.mg_none_of X G z_min⟩
  exact ⟨PySem.W.fnOf "law" "law" (defArgs s_law) (defBody s_law) (defScope s_law) .none kV_law dc_law pm_law an_law cd_law ct_law, fun s v => .of_eq rfl, fun base _ _ => ok_law T⟩
theorem walk {l : PySem.W.OpenLaw} {q : Program} {loose : List Str} {XP : (Str → Option Value) → Heap → Prop} {YP : World → Heap → Prop} {d : DefRec} {K : Params → PySem.W.Frag} (hn : l.most = some 63) (hdf : d.params.defaults = [])
    (hY : ∀ (w : World) (h : Heap), YP w h → (K w.params).In h)
    (F : ∀ (w : World) (mg : Str → Option Value) (fa : Addr) (h : Heap), (K w.params).In h → h.Ns mainGlobals mg → mg d.name = some (.ref fa) →
      ∃ fd : FuncData, (∀ (s : Shared) (u : Value), BindsTo s fd ⟨[u], []⟩ [("_law_script", u)]) ∧ ∀ base : Heap, (K w.params).In base → base.Ns mainGlobals mg → FnOk l.prog w (K w.params) mg base CX0 12 fa fd ["_law_script"] (spLaw (K w.params))) :
    PySem.W.WalkO q loose XP YP l.row.toRowW d [] (fun f vs => PySem.call f vs) :=
  L2.walk_of (n := 63) (k := 12) (x := "_law_script") (CX := fun _ => CX0) (sp := fun w => spLaw (K w.params)) hn (by decide) hdf ⟨rfl, by decide, by decide⟩ hY F (fun _ _ a ns hl _ hS => ⟨a, ns, rfl, hS, hl, fun _ => rfl⟩) fun _ _ _ _ _ z => z
end Mine
/-! ## KZ -/
open PySem PySem.W PyProof.Rows in
set_option maxRecDepth 100000 in
set_option maxHeartbeats 0 in
theorem PySem.Challenge.cw_growalong_k03_whole_who_reaches_whom_holds : PySem.Challenge.rw_growalong_k03_whole_who_reaches_whom.Holds := by
  w_on; o_law; k_head; (case hw => w_witness2)
  k_fill
  refine Mine.walk (l := PySem.Challenge.rw_growalong_k03_whole_who_reaches_whom) rfl rfl (fun w h Y => PySem.W.kIn_of Y) ?F
  case F =>
    intro w mg fa h KX G hmg
    refine' Mine.all_mk KX G hmg ?aC_Web ?a_is_integer ?l_is_integer ?c_is_integer ?k_is_integer ?a_is_between ?l_is_between ?c_is_between ?k_is_between ?a_is_below ?l_is_below ?c_is_below ?k_is_below ?a_is_tuple_of ?l_is_tuple_of ?c_is_tuple_of ?k_is_tuple_of ?a_are_below ?l_are_below ?c_are_below ?k_are_below ?a_is_unlike_pair ?l_is_unlike_pair ?c_is_unlike_pair ?k_is_unlike_pair ?a_Web_init ?i_Web_init ?l_Web_init ?c_Web_init ?k_Web_init ?a_first_wrong_wire ?l_first_wrong_wire ?c_first_wrong_wire ?k_first_wrong_wire ?a_web_of_any_size ?l_web_of_any_size ?c_web_of_any_size ?k_web_of_any_size ?a_ways_from ?l_ways_from ?c_ways_from ?k_ways_from ?a_renamed ?l_renamed ?c_renamed ?k_renamed ?a_is_order ?l_is_order ?c_is_order ?k_is_order ?a_check_machine ?l_check_machine ?c_check_machine ?k_check_machine ?a_reached ?l_reached ?c_reached ?k_reached ?a_is_strong ?l_is_strong ?c_is_strong ?k_is_strong ?a__law_hand ?l__law_hand ?c__law_hand ?k__law_hand ?a__law_draw ?l__law_draw ?c__law_draw ?k__law_draw ?a__law_is ?l__law_is ?c__law_is ?k__law_is ?a__law_flag ?l__law_flag ?c__law_flag ?k__law_flag ?a__law_web ?l__law_web ?c__law_web ?k__law_web ?a__law_table ?l__law_table ?c__law_table ?k__law_table ?a__law_more ?l__law_more ?c__law_more ?k__law_more ?a_law ?l_law ?c_law ?k_law ?pg_Web ?hd_Web ?po_Web ?sa_Web ?mk_Web ?kc_Web ?na_Web_machines ?na_Web_wires ?co_MOST_MACHINES ?z_isinstance ?z_int ?z_bool ?z_tuple ?z_len ?z_all ?z_enumerate ?z_sorted ?z_set ?z_list ?z_range ?z_zip ?z_abs ?z_min
    (case aC_Web => k_is)
    (case a_is_integer => k_is)
    (case l_is_integer => k_is)
    (case c_is_integer => k_is)
    (case k_is_integer => k_is)
    (case a_is_between => k_is)
    (case l_is_between => k_is)
    (case c_is_between => k_is)
    (case k_is_between => k_is)
    (case a_is_below => k_is)
    (case l_is_below => k_is)
    (case c_is_below => k_is)
    (case k_is_below => k_is)
    (case a_is_tuple_of => k_is)
    (case l_is_tuple_of => k_is)
    (case c_is_tuple_of => k_is)
    (case k_is_tuple_of => k_is)
    (case a_are_below => k_is)
    (case l_are_below => k_is)
    (case c_are_below => k_is)
    (case k_are_below => k_is)
    (case a_is_unlike_pair => k_is)
    (case l_is_unlike_pair => k_is)
    (case c_is_unlike_pair => k_is)
    (case k_is_unlike_pair => k_is)
    (case a_Web_init => k_is)
    (case i_Web_init => k_is)
    (case l_Web_init => k_is)
    (case c_Web_init => k_is)
    (case k_Web_init => k_is)
    (case a_first_wrong_wire => k_is)
    (case l_first_wrong_wire => k_is)
    (case c_first_wrong_wire => k_is)
    (case k_first_wrong_wire => k_is)
    (case a_web_of_any_size => k_is)
    (case l_web_of_any_size => k_is)
    (case c_web_of_any_size => k_is)
    (case k_web_of_any_size => k_is)
    (case a_ways_from => k_is)
    (case l_ways_from => k_is)
    (case c_ways_from => k_is)
    (case k_ways_from => k_is)
    (case a_renamed => k_is)
    (case l_renamed => k_is)
    (case c_renamed => k_is)
    (case k_renamed => k_is)
    (case a_is_order => k_is)
    (case l_is_order => k_is)
    (case c_is_order => k_is)
    (case k_is_order => k_is)
    (case a_check_machine => k_is)
    (case l_check_machine => k_is)
    (case c_check_machine => k_is)
    (case k_check_machine => k_is)
    (case a_reached => k_is)
    (case l_reached => k_is)
    (case c_reached => k_is)
    (case k_reached => k_is)
    (case a_is_strong => k_is)
    (case l_is_strong => k_is)
    (case c_is_strong => k_is)
    (case k_is_strong => k_is)
    (case a__law_hand => k_is)
    (case l__law_hand => k_is)
    (case c__law_hand => k_is)
    (case k__law_hand => k_is)
    (case a__law_draw => k_is)
    (case l__law_draw => k_is)
    (case c__law_draw => k_is)
    (case k__law_draw => k_is)
    (case a__law_is => k_is)
    (case l__law_is => k_is)
    (case c__law_is => k_is)
    (case k__law_is => k_is)
    (case a__law_flag => k_is)
    (case l__law_flag => k_is)
    (case c__law_flag => k_is)
    (case k__law_flag => k_is)
    (case a__law_web => k_is)
    (case l__law_web => k_is)
    (case c__law_web => k_is)
    (case k__law_web => k_is)
    (case a__law_table => k_is)
    (case l__law_table => k_is)
    (case c__law_table => k_is)
    (case k__law_table => k_is)
    (case a__law_more => k_is)
    (case l__law_more => k_is)
    (case c__law_more => k_is)
    (case k__law_more => k_is)
    (case a_law => k_is)
    (case l_law => k_is)
    (case c_law => k_is)
    (case k_law => k_is)
    (case pg_Web => k_is)
    (case hd_Web => k_is)
    (case po_Web => k_is)
    (case sa_Web => k_is)
    (case mk_Web => k_is)
    (case kc_Web => k_is)
    (case na_Web_machines => k_is)
    (case na_Web_wires => k_is)
    (case co_MOST_MACHINES => k_is)
    (case z_isinstance => k_is)
    (case z_int => k_is)
    (case z_bool => k_is)
    (case z_tuple => k_is)
    (case z_len => k_is)
    (case z_all => k_is)
    (case z_enumerate => k_is)
    (case z_sorted => k_is)
    (case z_set => k_is)
    (case z_list => k_is)
    (case z_range => k_is)
    (case z_zip => k_is)
    (case z_abs => k_is)
    (case z_min => k_is)

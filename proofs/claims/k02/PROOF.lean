import PyProof.Rows.All
import Wide.All
import OpenK.AllK
import Wide.FinOn
import HandS.ForMost
import HandS.Deep
import HandS.IsInst
import HandS.TupLe
import HandS.TupAny
import HandS.TupSets
import HandS.Style
import HandS.Zip
import HandS.More
import HandS.SortInts
import HandS.Codes
import HandS.Walk
import HandS.Iter
import KE.GoesEnum
import PyProof.Rows.SortShell
import HandS.Conv
import HandS.OwnEq
import PyProof.InstNe
import HandS.Strs
import PyProof.WalksMore
import PySem.Challenge.RW_growalong_k02_whole_webs_made_by_words
set_option Elab.async false
set_option linter.all false
set_option maxRecDepth 100000
set_option maxHeartbeats 4000000
/-! ## GA -/
namespace GA
open PySem L2

/-! ### heaps: what stays -/
/-- tuples stay -/
def Ts (H H' : Hp) : Prop := ∀ a xs, Rd H a (.tup xs) → Rd H' a (.tup xs)
/-- the hand of draws: a list at hd whose first item is the list of ints at c -/
def Hand (H : Hp) (hd c : Addr) : Prop := c ≠ hd ∧ (∃ ns : List Int, H c = some (.lst (ns.map V.int))) ∧ ∃ (i b m k : Int), H hd = some (.lst [.ref c, .int i, .int b, .int m, .int k]) ∧ 0 ≤ i
/-- all that stood stands, but for the hand's own list -/
structure G (o : Option (Addr × Addr)) (H H' : Hp) : Prop where
  keep : ∀ a u, (∀ p, o = some p → a ≠ p.1) → H a = some u → H' a = some u
  tups : Ts H H'
  hand : ∀ p, o = some p → Hand H p.1 p.2 → Hand H' p.1 p.2
theorem G.refl {o : Option (Addr × Addr)} {H : Hp} : G o H H := ⟨fun _ _ _ h => h, fun _ _ h => h, fun _ _ h => h⟩
theorem G.trans {o : Option (Addr × Addr)} {H H1 H2 : Hp} (a : G o H H1) (b : G o H1 H2) : G o H H2 :=
  ⟨fun x u n h => b.keep x u n (a.keep x u n h), fun x xs h => b.tups x xs (a.tups x xs h), fun p e h => b.hand p e (a.hand p e h)⟩
theorem G.all {H H' : Hp} (g : G none H H') (a : Addr) (u : HO) (h : H a = some u) : H' a = some u := g.keep a u (fun p e => nomatch e) h
theorem G.of_all {o : Option (Addr × Addr)} {H H' : Hp} (k : ∀ a u, H a = some u → H' a = some u) : G o H H' :=
  ⟨fun a u _ h => k a u h, fun a xs h => h.elim (fun h => .inl (k _ _ h)) fun ⟨ob, h⟩ => .inr ⟨ob, k _ _ h⟩,
    fun p _ ⟨n, ⟨ns, h1⟩, i, b, m, z, h2, h3⟩ => ⟨n, ⟨ns, k _ _ h1⟩, i, b, m, z, k _ _ h2, h3⟩⟩
theorem G.up {o : Option (Addr × Addr)} {H H' : Hp} (g : G none H H') : G o H H' := G.of_all g.all
theorem G.alloc {o : Option (Addr × Addr)} {H : Hp} {p : Addr} {u : HO} (h : H p = none) : G o H (upd H p u) := G.of_all fun a w e => by
  rw [upd_ne (ne_of_none e h)]; exact e
/-- a thing that H does not know is changed -/
theorem G.mut {o : Option (Addr × Addr)} {H H' : Hp} {l : Addr} {u : HO} (g : G o H H') (h : H l = none) (hh : ∀ p, o = some p → Hand H p.1 p.2) : G o H (upd H' l u) := by
  refine ⟨fun a w n e => ?_, fun a xs e => ?_, fun p e x => ?_⟩
  · rw [upd_ne (ne_of_none e h)]; exact g.keep a w n e
  · have ne : a ≠ l := by
      rcases e with e | ⟨ob, e⟩ <;> exact ne_of_none e h
    rcases g.tups a xs e with q | ⟨ob, q⟩
    · exact .inl (by rw [upd_ne ne]; exact q)
    · exact .inr ⟨ob, by rw [upd_ne ne]; exact q⟩
  · obtain ⟨n0, ⟨ns0, h0⟩, i0, b0, m0, k0, h1, _⟩ := hh p e
    obtain ⟨n, ⟨ns, h2⟩, i, b, m, k, h3, h4⟩ := g.hand p e x
    exact ⟨n, ⟨ns, by rw [upd_ne (ne_of_none h0 h)]; exact h2⟩, i, b, m, k, by rw [upd_ne (ne_of_none h1 h)]; exact h3, h4⟩
theorem Hand.ne {H : Hp} {hd c l : Addr} (x : Hand H hd c) (h : H l = none) : l ≠ hd := fun e => by
  obtain ⟨_, _, _, _, _, _, h1, _⟩ := x
  rw [← e, h] at h1; cases h1
/-- an address that is not the hand's -/
def Off (o : Option (Addr × Addr)) (a : Addr) : Prop := ∀ p, o = some p → a ≠ p.1
theorem off_none {a : Addr} : Off none a := fun _ e => nomatch e
theorem off_new {hd c l : Addr} {H : Hp} (x : Hand H hd c) (h : H l = none) : Off (some (hd, c)) l := fun p e => by cases e; exact x.ne h
theorem off_ins {hd c a C dx : Addr} {fs : List (Str × V)} {H : Hp} (x : Hand H hd c) (h : H a = some (.ins C dx fs)) : Off (some (hd, c)) a := fun p e => by
  cases e
  obtain ⟨_, _, _, _, _, _, h1, _⟩ := x
  exact ne_of h h1 (by intro z; cases z)
theorem off_dK {hd c a : Addr} {kvs : List (Key × V)} {H : Hp} (x : Hand H hd c) (h : H a = some (.dK kvs)) : Off (some (hd, c)) a := fun p e => by
  cases e
  obtain ⟨_, _, _, _, _, _, h1, _⟩ := x
  exact ne_of h h1 (by intro z; cases z)

/-! ### data without lists -/
mutual
def nl : PyData → Bool
  | .list _ => false
  | .dict _ => false
  | .tuple ds => nls ds
  | .none => true
  | .bool _ => true
  | .int _ => true
  | .str _ => true
def nls : List PyData → Bool
  | [] => true
  | d :: ds => nl d && nls ds
end
theorem nls_iff : ∀ {ds : List PyData}, nls ds = true ↔ ∀ d ∈ ds, nl d = true
  | [] => by simp [nls]
  | d :: ds => by simp [nls, nls_iff (ds := ds)]
section
variable {K : PySem.W.Frag} {H H' : Hp}
theorem sqT_t (t : Ts H H') {a : Addr} {xs : List V} (h : SqT K H a xs) : SqT K H' a xs := h.elim (fun h => .inl (t _ _ h)) .inr
mutual
theorem dp_t (t : Ts H H') : ∀ (d : PyData) (v : V), nl d = true → Dp K H v d → Dp K H' v d
  | .none, _, _, h => by cases h; exact .non
  | .bool b, _, _, h => by cases h; exact .bl b
  | .int i, _, _, h => by cases h; exact .int i
  | .str x, _, _, h => by cases h; exact .str x
  | .list ds, _, n, _ => by simp [nl] at n
  | .dict ds, _, n, _ => by simp [nl] at n
  | .tuple ds, _, n, h => by
    cases h with
    | tup hs ha => exact .tup (sqT_t t hs) (dpAll_t t ds _ (by simpa [nl] using n) ha)
theorem dpAll_t (t : Ts H H') : ∀ (ds : List PyData) (vs : List V), nls ds = true → DpAll K H vs ds → DpAll K H' vs ds
  | [], _, _, h => by cases h; exact .nil
  | d :: ds, _, n, h => by
    cases h with
    | cons h1 h2 =>
      have n' : nl d = true ∧ nls ds = true := by simpa [nls] using n
      exact .cons (dp_t t d _ n'.1 h1) (dpAll_t t ds _ n'.2 h2)
end
theorem DpAll.length : ∀ {vs : List V} {ds : List PyData}, DpAll K H vs ds → vs.length = ds.length
  | _, _, .nil => rfl
  | _, _, .cons _ t => by simp [DpAll.length t]
theorem DpAll.get : ∀ {vs : List V} {ds : List PyData} {i : Nat} {v : V}, DpAll K H vs ds → vs[i]? = some v → ∃ d, ds[i]? = some d ∧ Dp K H v d
  | _, _, _, _, .nil, e => by simp at e
  | _, _, 0, _, .cons h _, e => by simp at e; subst e; exact ⟨_, rfl, h⟩
  | _, _, i + 1, v, .cons _ t, e => by
    obtain ⟨d, h1, h2⟩ := DpAll.get (i := i) (v := v) t (by simpa using e)
    exact ⟨d, by simpa using h1, h2⟩
theorem DpAll.get' : ∀ {vs : List V} {ds : List PyData} {i : Nat} {d : PyData}, DpAll K H vs ds → ds[i]? = some d → ∃ v, vs[i]? = some v ∧ Dp K H v d
  | _, _, _, _, .nil, e => by simp at e
  | _, _, 0, _, .cons h _, e => by simp at e; subst e; exact ⟨_, rfl, h⟩
  | _, _, i + 1, d, .cons _ t, e => by
    obtain ⟨v, h1, h2⟩ := DpAll.get' (i := i) (d := d) t (by simpa using e)
    exact ⟨v, by simpa using h1, h2⟩
theorem DpAll.app : ∀ {vs ws : List V} {ds es : List PyData}, DpAll K H vs ds → DpAll K H ws es → DpAll K H (vs ++ ws) (ds ++ es)
  | _, _, _, _, .nil, h => h
  | _, _, _, _, .cons h t, h' => .cons h (DpAll.app t h')
theorem DpAll.one {v : V} {d : PyData} (h : Dp K H v d) : DpAll K H [v] [d] := .cons h .nil
theorem DpAll.ints : ∀ (ns : List Int), DpAll K H (ns.map V.int) (ns.map PyData.int)
  | [] => .nil
  | n :: ns => .cons (.int n) (DpAll.ints ns)
theorem DpAll.of_ints : ∀ {ns : List Int} {vs : List V}, DpAll K H vs (ns.map PyData.int) → vs = ns.map V.int
  | [], _, .nil => rfl
  | n :: ns, _, .cons h t => by cases h; rw [DpAll.of_ints t]; rfl
end
/-- a tuple of ints, a pair, a tuple of pairs -/
abbrev dI (ns : List Int) : PyData := .tuple (ns.map PyData.int)
abbrev dP (w : Int × Int) : PyData := .tuple [.int w.1, .int w.2]
abbrev dW (ws : List (Int × Int)) : PyData := .tuple (ws.map dP)
theorem nls_ints (ns : List Int) : nls (ns.map PyData.int) = true := by rw [nls_iff]; intro d h; simp only [List.mem_map] at h; obtain ⟨n, _, rfl⟩ := h; rfl
theorem nls_pairs (ws : List (Int × Int)) : nls (ws.map dP) = true := by rw [nls_iff]; intro d h; simp only [List.mem_map] at h; obtain ⟨n, _, rfl⟩ := h; rfl
theorem nl_dI (ns : List Int) : nl (dI ns) = true := by show nls _ = true; exact nls_ints ns
theorem nl_dP (w : Int × Int) : nl (dP w) = true := rfl
theorem nl_dW (ws : List (Int × Int)) : nl (dW ws) = true := by show nls _ = true; exact nls_pairs ws
section
variable {K : PySem.W.Frag} {H H' : Hp}
theorem dp_dI {v : V} {ns : List Int} (h : Dp K H v (dI ns)) : ∃ a, v = .ref a ∧ SqT K H a (ns.map V.int) := by
  cases h with
  | tup hs ha => exact ⟨_, rfl, by rw [← DpAll.of_ints ha]; exact hs⟩
theorem dp_dP {v : V} {w : Int × Int} (h : Dp K H v (dP w)) : ∃ a, v = .ref a ∧ SqT K H a [.int w.1, .int w.2] := by
  cases h with
  | tup hs ha =>
    cases ha with
    | cons h1 t =>
      cases t with
      | cons h2 t =>
        cases t; cases h1; cases h2
        exact ⟨_, rfl, hs⟩
theorem dp_tup {v : V} {ds : List PyData} (h : Dp K H v (.tuple ds)) : ∃ a vs, v = .ref a ∧ SqT K H a vs ∧ DpAll K H vs ds := by
  cases h with
  | tup hs ha => exact ⟨_, _, rfl, hs, ha⟩
theorem dp_ofI {a : Addr} {ns : List Int} (h : SqT K H a (ns.map V.int)) : Dp K H (.ref a) (dI ns) := .tup h (DpAll.ints ns)
theorem dp_ofP {a : Addr} {i j : Int} (h : SqT K H a [.int i, .int j]) : Dp K H (.ref a) (dP (i, j)) := .tup h (.cons (.int i) (.cons (.int j) .nil))
end

/-! ### steps: a reading by its first part -/
section
variable {K : PySem.W.Frag} {σ : L2.St} {H : Hp} {Q : VK} {QB : Bool → Hp → Prop} {D : Ends} {ta tb tc te : TE} {t u : TT} {ts tu : TS} {r r' : R2} {v x y : V} {i j : Int} {n : Nat} {b : Bool} {A B : Prop}
theorem w_var {i : Nat} (h : σ[i]? = some (some v)) (q : Q v H) : tVar i σ H Q := ⟨v, h, q⟩
theorem w_c (q : Q v H) : tC v σ H Q := q
theorem w_op (q : ta σ H fun x H1 => tb σ H1 fun y H2 => r x y H2 Q) : tOp r ta tb σ H Q := q
theorem w_un {f : V → Hp → VK → Prop} (q : ta σ H fun x H1 => f x H1 Q) : tUn f ta σ H Q := q
theorem w_seq (q : ts { D with nx := tu D } σ H) : tSeq ts tu D σ H := q
theorem w_next (q : D.nx σ H) : tNext D σ H := q
theorem w_break (q : D.bk σ H) : tBreak D σ H := q
theorem w_set {i : Nat} (q : te σ H fun x H1 => D.nx (σ.set i (some x)) H1) : tAsg te (gName i) D σ H := q
theorem w_asg {g : TG} (q : te σ H fun x H1 => g x σ H1 D.nx) : tAsg te g D σ H := q
theorem w_drop (q : te σ H fun _ H1 => D.nx σ H1) : tDrop te D σ H := q
theorem w_ret (q : te σ H D.rt) : tRet te D σ H := q
theorem w_retN (q : D.rt .non H) : tRetN D σ H := q
theorem w_ifS (q : t σ H fun b H1 => if b = true then ts D σ H1 else tu D σ H1) : tIfS t ts tu D σ H := q
theorem w_test (q : te σ H fun x H' => ∃ k, x = .bl k ∧ QB k H') : tTest te σ H QB := q
theorem w_tB (q : te σ H fun x H' => ∃ k, x = .bl k ∧ QB k H') : tB te σ H QB := q
theorem w_bl (q : QB b H) : ∃ k, V.bl b = .bl k ∧ QB k H := ⟨b, rfl, q⟩
theorem w_not (q : t σ H fun c H1 => QB (!c) H1) : tNot t σ H QB := q
theorem w_and (q : t σ H fun c H1 => if c = true then u σ H1 QB else QB false H1) : tAnd t u σ H QB := q
theorem w_or (q : t σ H fun c H1 => if c = true then QB true H1 else u σ H1 QB) : tOr t u σ H QB := q
theorem w_andV (q : ta σ H fun x H1 => ∃ c, x = .bl c ∧ if c = true then tb σ H1 Q else Q (.bl false) H1) : tAndV ta tb σ H Q := q
theorem w_orV (q : ta σ H fun x H1 => ∃ c, x = .bl c ∧ if c = true then Q (.bl true) H1 else tb σ H1 Q) : tOrV ta tb σ H Q := q
theorem w_notV (q : ta σ H fun x H1 => ∃ c, x = .bl c ∧ Q (.bl (!c)) H1) : tNotV ta σ H Q := q
theorem w_if (q : t σ H fun c H1 => if c = true then ta σ H1 Q else tb σ H1 Q) : tIf t ta tb σ H Q := q
theorem w_blc {F : Bool → Prop} (q : F b) : ∃ c, V.bl b = .bl c ∧ F c := ⟨b, rfl, q⟩
theorem w_nil {QA : List V → Hp → Prop} (q : QA [] H) : tNil σ H QA := q
theorem w_cons {tr : TA} {QA : List V → Hp → Prop} (q : te σ H fun x H1 => tr σ H1 fun xs H2 => QA (x :: xs) H2) : tCons te tr σ H QA := q
theorem w_CB {f : List V → Hp → VK → Prop} {tr : TA} (q : tr σ H fun vs H1 => f vs H1 Q) : tCB f tr σ H Q := q
theorem w_call {sp : Sp} {E : XK} {tr : TA} (q : tr σ H fun vs H1 => sp (vs ++ []) H1 Q E) : tCall sp [] E tr σ H Q := q
theorem w_tup {tr : TA} (q : tr σ H fun xs H1 => xs.length ≤ sizeLine ∧ ∀ p, H1 p = none → Q (.ref p) (upd H1 p (.tup xs))) : tTup tr σ H Q := q
theorem w_lst {tr : TA} (q : tr σ H fun xs H1 => xs.length ≤ sizeLine ∧ ∀ p, H1 p = none → Q (.ref p) (upd H1 p (.lst xs))) : tLst tr σ H Q := q
theorem w_chain (q : ta σ H fun x H1 => tb σ H1 fun y H2 => r x y H2 fun z H3 => ∃ k, z = .bl k ∧ (if k = true then tc σ H3 fun w' H4 => r' y w' H4 Q else Q (.bl false) H3)) : tChain r r' ta tb tc σ H Q := q
theorem w_sl {f : V → Option Int → Option Int → Hp → VK → Prop} {tl th : TO} (q : te σ H fun x H1 => tl σ H1 fun l H2 => th σ H2 fun u H3 => f x l u H3 Q) : tSl f te tl th σ H Q := q
theorem w_part {QO : Option Int → Hp → Prop} (q : te σ H fun x H1 => ∃ i, x = .int i ∧ QO (some i) H1) : tPart te σ H QO := q
theorem w_noPart {QO : Option Int → Hp → Prop} (q : QO none H) : tNoPart σ H QO := q
theorem w_inti {F : Int → Prop} (q : F i) : ∃ k, V.int i = .int k ∧ F k := ⟨i, rfl, q⟩
theorem w_fld {f : Str} (q : te σ H fun x H1 => ∃ a C dx fs v, x = .ref a ∧ H1 a = some (.ins C dx fs) ∧ Cls K C ∧ NoAttr K C f ∧ fs.lookup f = some v ∧ Q v H1) : tFld K te f σ H Q := q
theorem w_sfld {f : Str} (q : tb σ H fun y H1 => ta σ H1 fun x H2 => ∃ a C dx fs, x = .ref a ∧ H2 a = some (.ins C dx fs) ∧ Cls K C ∧ NoAttr K C f ∧ fs.length < 1000 ∧ D.nx σ (upd H2 a (.ins C dx (putF f y fs)))) : sFld K ta tb f D σ H := q
theorem w_gsub {to ti : TE} {s : TSet} {QS : L2.St → Hp → Prop} (q : to σ H fun o H1 => ti σ H1 fun i H2 => s o i v H2 fun H3 => QS σ H3) : gSub to ti s v σ H QS := q
theorem w_gname {i : Nat} {QS : L2.St → Hp → Prop} (q : QS (σ.set i (some v)) H) : gName i v σ H QS := q
/-! by values -/
theorem r_I0 {g : Int → Int → V} (q : Q (g i j) H) : rI0 g (.int i) (.int j) H Q := ⟨i, j, rfl, rfl, q⟩
theorem r_I {C : Int → Int → Prop} {g : Int → Int → V} (c : C i j) (q : Q (g i j) H) : rI C g (.int i) (.int j) H Q := ⟨i, j, rfl, rfl, c, q⟩
theorem r_U {g : Int → V} (q : Q (g i) H) : rU g (.int i) H Q := ⟨i, rfl, q⟩
theorem r_eqI (q : Q (.bl (decide (i = j))) H) : rEq (.int i) (.int j) H Q := ⟨rfl, by
  have e : decide (V.int i = V.int j) = decide (i = j) := by simp
  rw [e]; exact q⟩
theorem r_neI (q : Q (.bl (!decide (i = j))) H) : rNe (.int i) (.int j) H Q := ⟨rfl, by
  have e : decide (V.int i = V.int j) = decide (i = j) := by simp
  rw [e]; exact q⟩
theorem r_eqB {a b : Bool} (q : Q (.bl (decide (a = b))) H) : rEq (.bl a) (.bl b) H Q := ⟨rfl, by
  have e : decide (V.bl a = V.bl b) = decide (a = b) := by simp
  rw [e]; exact q⟩
theorem r_neB {a b : Bool} (q : Q (.bl (!decide (a = b))) H) : rNe (.bl a) (.bl b) H Q := ⟨rfl, by
  have e : decide (V.bl a = V.bl b) = decide (a = b) := by simp
  rw [e]; exact q⟩
theorem r_ixT {p : Addr} {xs : List V} (h : SqT K H p xs) (e : atI xs i = some v) (q : Q v H) : rIxT K (.ref p) (.int i) H Q := ⟨p, xs, i, v, rfl, rfl, h, e, q⟩
theorem r_ixL {p : Addr} {xs : List V} (h : SqL K H p xs) (e : atI xs i = some v) (q : Q v H) : rIxL K (.ref p) (.int i) H Q := ⟨p, xs, i, v, rfl, rfl, h, e, q⟩
theorem w_ite (h1 : b = true → A) (h2 : b = false → B) : if b = true then A else B := by
  cases b with
  | true => exact h1 rfl
  | false => exact h2 rfl
theorem w_newT {o : Option (Addr × Addr)} {xs : List V} (q : ∀ p H1, H p = none → G o H H1 → H1 p = some (.tup xs) → Q (.ref p) H1) (hz : xs.length ≤ 100000 := by simp) : xs.length ≤ sizeLine ∧ ∀ p, H p = none → Q (.ref p) (upd H p (.tup xs)) :=
  ⟨Nat.le_trans hz (by decide), fun p hp => q p _ hp (G.alloc hp) upd_same⟩
theorem w_newL {o : Option (Addr × Addr)} {xs : List V} (q : ∀ p H1, H p = none → G o H H1 → H1 p = some (.lst xs) → Q (.ref p) H1) (hz : xs.length ≤ 100000 := by simp) : xs.length ≤ sizeLine ∧ ∀ p, H p = none → Q (.ref p) (upd H p (.lst xs)) :=
  ⟨Nat.le_trans hz (by decide), fun p hp => q p _ hp (G.alloc hp) upd_same⟩
end
end GA
/-! ## GB -/
namespace PySem
open Sem (wp)
open AutoSeq1 (wpAny_loadPart')
theorem ga_enumerate_newT (l : Addr) (items : Array Value) :
    Meets (Builtin.«enumerate.__new__» ⟨[.type "enumerate", .ref l], []⟩) (fun _ R s => s.heap.IsTuple l items ∧
      R (.ok (.ret (.ref (s.heap.push { cls := .type "tuple_iterator", data := .fields #[.ref l, .int 0 0] }).objs.size)))
        { s with heap := (s.heap.push { cls := .type "tuple_iterator", data := .fields #[.ref l, .int 0 0] }).push { cls := .type "enumerate", data := .fields #[.none, .bool false, .ref s.heap.objs.size, rawInt 0, .none, .none] } }) :=
  .of_wp fun prog w A R s h => by
    obtain ⟨hp, g, d, tk, os⟩ := s; obtain ⟨hl, h⟩ := h
    have hsub := sub_enumerate
    have hL : Heap.IsTuple (Shared.heap ⟨hp, g, d, tk, os⟩) l items := hl
    obtain ⟨ob, hob, _⟩ := id hl
    wp_walk using wpAny_loadPart' hob
    refine wpAny_stack_any fun st => wpAny_pure ?_
    split
    · rename_i c _ _ _ _ _
      cases (c == Value.type "enumerate")
      · wp_walk using wpAny_loadPart' hob, wpAny_pyIter_tuple hL
        exact ⟨_, rfl, h⟩
      · wp_walk using wpAny_loadPart' hob, wpAny_pyIter_tuple hL
        exact ⟨_, rfl, h⟩
    · wp_walk using wpAny_loadPart' hob, wpAny_pyIter_tuple hL
      exact ⟨_, rfl, h⟩
theorem ga_enumerate_tuple {prog : Program} {w : World} {A : Around} {E : Value → Shared → Prop} {s : Shared} {l : Addr} {items : Array Value} {Q : Value → Shared → Prop} (hL : s.heap.IsTuple l items)
    (h : ∀ h', IsEnum h' (s.heap.objs.size + 1) s.heap.objs.size 0 .none → h'.IsTupleIter s.heap.objs.size l 0 → h'.objs.size = s.heap.objs.size + 2 →
      (∀ b o, s.heap.get? b = some o → h'.get? b = some o) → Q (.ref (s.heap.objs.size + 1)) { s with heap := h' }) :
    wpAny (model prog w) A (call (.type "enumerate") [.ref l]) Q E s := by
  refine callType_new F.called_enumerate (by decide) (F.typeCall_enumerate_1 _) (F.newCall_enumerate_1 _) (fun obj => F.args_object_init_2 obj _) F.entry_enumerate_new
    (ga_enumerate_newT l items) ⟨hL, ?_⟩
  have hz : (s.heap.push { cls := .type "tuple_iterator", data := .fields #[.ref l, .int 0 0] }).objs.size = s.heap.objs.size + 1 := Heap.size_push ..
  show _ ∧ _
  rw [hz]
  have he : IsEnum ((s.heap.push { cls := .type "tuple_iterator", data := .fields #[.ref l, .int 0 0] }).push
      { cls := .type "enumerate", data := .fields #[.none, .bool false, .ref s.heap.objs.size, rawInt 0, .none, .none] }) (s.heap.objs.size + 1) s.heap.objs.size 0 .none := by
    have := Heap.get?_push_size (s.heap.push { cls := .type "tuple_iterator", data := .fields #[.ref l, .int 0 0] })
      (o := { cls := .type "enumerate", data := .fields #[.none, .bool false, .ref s.heap.objs.size, rawInt 0, .none, .none] }) rfl
    rw [hz] at this; exact this
  refine ⟨⟨_, he, rfl⟩, h _ he ⟨_, Heap.get?_push_of_some _ (Heap.get?_push_size _ rfl), rfl, rfl⟩ (by rw [Heap.size_push, hz]) fun b o x => Heap.get?_push_of_some _ (Heap.get?_push_of_some _ x)⟩
end PySem
namespace GA
open PySem PySem.Spec PyProof.Rows L2
/-- enumerate over a tuple -/
def IteT (K : PySem.W.Frag) (a : Addr) : It :=
  ⟨fun i H => ∃ (xs : List V) (x : V), SqT K H a xs ∧ xs[i]? = some x, fun i H v H' => ∃ T x, v = .ref T ∧ H T = none ∧ H' = upd H T (.tup [.int (i : Nat), x]) ∧ ∀ xs, SqT K H a xs → xs[i]? = some x, fun i H => ∃ xs : List V, SqT K H a xs ∧ xs.length ≤ i⟩
theorem turn_enumT {P : Program} {w : World} {K : PySem.W.Frag} {elts : List Expr} {kk : Nat} {tpos : Pos} (a e it : Addr) (nai : a ≠ it) (nae : a ≠ e) :
    Turn P w K (.Tuple elts kk tpos) (IteT K a) [e, it] e (fun i h => (∃ old, IsEnum h e it ((i : Nat) : Int) old) ∧ h.IsTupleIter it a i ∧ e ≠ it) where
  mem := by simp
  obj := fun i h st b hb => by
    obtain ⟨⟨old, he⟩, ⟨o, ho, hc, hd⟩, _⟩ := st
    have e' : b = e ∨ b = it := by simpa using hb
    rcases e' with z | z
    · rw [z]; exact ⟨_, he, fun v q => nomatch q⟩
    · rw [z]; exact ⟨o, ho, fun v q => by rw [hd] at q; cases q⟩
  keep := fun i h h' st k => let ⟨⟨old, he⟩, hi, hne⟩ := st; ⟨⟨old, k e (by simp) _ he⟩, hi.at fun o q => k it (by simp) o q, hne⟩
  item := by
    intro X hP hw hK hc i pins s σ H E I hf st hg
    subst hP hw hK
    obtain ⟨⟨old, he⟩, hit, hne⟩ := st
    obtain ⟨xs, x, hq, hx⟩ := hg
    obtain ⟨its, rv, p, hz⟩ := I.tuple hq
    obtain ⟨u, hu, ru⟩ := rv.get hx
    have hel : e < s.heap.objs.size := Heap.lt_size he
    have hil : it < s.heap.objs.size := by obtain ⟨_, q, _⟩ := hit; exact Heap.lt_size q
    have hi : i < its.toArray.size := by
      have := (List.getElem?_eq_some_iff.mp hu).1
      simpa using this
    refine wpAny_pyNext_enum_itemD (Draws.tuple (prog := X.prog) (w := X.w) (A := X.A.in1) (I.ok.hd hc) it a nai its.toArray) he ⟨hit, p⟩ hi hne (by simp [hne, Ne.symm nae]) fun v h' tk hv ho hst hT hsz hk => ?_
    have ev : v = u := by
      have z : its.toArray[i]? = some u := by simpa using hu
      rw [z] at hv; exact (Option.some.inj hv).symm
    subst ev
    refine ⟨_, rfl, wpAny_letOwnedTupleGo_enum (s := { s with heap := h', toks := tk + 1 }) ho fun h'' he' sb => ?_⟩
    have hT2 : h''.get? s.heap.objs.size = some { cls := .type "tuple", data := .seq #[.int i tk, v] } := (sb.2 _ (Nat.ne_of_gt hel)).trans hT
    have new : ObjOk X.prog X.w (upd H s.heap.objs.size (.tup [.int (i : Nat), x])) h'' s.heap.objs.size (.tup [.int (i : Nat), x]) :=
      ⟨by show 2 ≤ sizeLine; decide, [.int i tk, v], .cons ⟨_, rfl⟩ (.cons ru .nil), ⟨_, hT2, rfl, _, rfl⟩⟩
    have I1 : Inv X pins σ (upd H s.heap.objs.size (.tup [.int (i : Nat), x])) { s with heap := h'', toks := tk + 1 } :=
      I.turnedNew (ch := [e, it]) (fun b ob hb q => (sb.2 b (fun z => hb (by simp [z]))).trans (hk b ob (fun z => hb (by simp [z])) (fun z => hb (by simp [z])) q)) hf (Nat.le_refl _) new
    refine ⟨.ref s.heap.objs.size, _, I1, rfl, ⟨_, x, rfl, I.hok.fresh (Nat.le_refl _), rfl, fun ys hy => by rw [I.tuple_inj hy hq]; exact hx⟩, ⟨⟨v, ?_⟩, hst.1.at fun o q => (sb.2 it (Ne.symm hne)).trans q, hne⟩, fun b hb => ?_⟩
    · have e1 : ((i + 1 : Nat) : Int) = (i : Int) + 1 := by omega
      rw [e1]; exact he'
    · have hb' : b < s.heap.objs.size := by
        have e' : b = e ∨ b = it := by simpa using hb
        rcases e' with z | z
        · rw [z]; exact hel
        · rw [z]; exact hil
      rw [upd_ne (Nat.ne_of_lt hb')]
      exact (hf b hb).1
  done := by
    intro X hP hw hK hc i pins s σ H E I hf st hg
    subst hP hw hK
    obtain ⟨⟨old, he⟩, hit, hne⟩ := st
    obtain ⟨xs, hq, hx⟩ := hg
    obtain ⟨its, rv, p, hz⟩ := I.tuple hq
    obtain ⟨f0, f1, f2, f3, f4, f5⟩ := hf it (by simp)
    have hl := rv.length
    have hT : s.TypeIs (.ref e) "enumerate" := ⟨_, he, rfl⟩
    unfold pyNext
    refine wpAny_bind (wpAny_attempt (wpAny_callSpecial?_slot (name := Str.ofString "__next__") hT F.slot_enumerate_next
      (wpAny_call_entry F.slot_enumerate_next hT F.entry_enumerate_next ?_ (F.args_enumerate_next_1 _))))
    show wpAny _ _ (field (.ref e) 2 >>= _) _ _ _
    refine wpAny_bind (wpAny_field he rfl (x := .ref it) rfl ?_)
    refine wpAny_bind (wpAny_nextOf_tuple_end (I.ok.hd hc) hit p (by simp; omega) fun h' x' he' hx' => ?_)
    obtain ⟨o, ho, hc'⟩ := hx'
    refine wpAny_bind (wpAny_isInstance (T := "StopIteration") (b := true) ⟨o, ho, hc'⟩ isSubtype_stop ?_)
    exact wpAny_pure ⟨rfl, I.turned (t' := s.toks) (fun b o hb q => he' b o hb q) f0 f1 f3 f4 f5⟩
  self := by
    intro A i s Q E st h
    obtain ⟨⟨old, he⟩, _⟩ := st
    exact wpAny_pyIter_enum he h
def iEnumT (K : PySem.W.Frag) (ta : TA) : TI := fun σ H R => ta σ H fun vs H1 => ∃ a xs, vs = [.ref a] ∧ SqT K H1 a xs ∧ R (IteT K a) H1
theorem pi_enumT {X : Cx} {e : Expr} {ta : TA} {p pos tpos : Pos} {elts : List Expr} {kk : Nat} (hg : Gl X "enumerate") (hm : X.mg "enumerate" = none) (ha : PA X [e] ta) (hs : starEach [e] X.env = [(false, eval e X.env)] := by rfl) :
    PI X (.Tuple elts kk tpos) (.Call (.Name "enumerate" p) [e] [] pos) (iEnumT X.K ta) := by
  refine ⟨fun pins s σ H R I h => ?_⟩
  refine Call_ (ld_blt I hg hm boot_enumerate (PyProof.Rows.callWith_type1 (thn (ha.run pos pins s σ H _ I h) fun us s1 ⟨vs, H1, I1, r1, q1⟩ => ?_) hs rfl))
  obtain ⟨a, xs, ex, hq, q⟩ := q1
  subst ex
  cases r1 with
  | cons r rr =>
    cases rr
    cases r
    obtain ⟨its, rv, p', hz⟩ := I1.tuple hq
    have hal : a < s1.heap.objs.size := p'.lt
    refine ga_enumerate_tuple p' fun h' he hit hsz hk => wpAny_pyIter_enum he ?_
    have I2 : Inv X pins σ H1 { s1 with heap := h' } := I1.kept (t' := s1.toks) hk
    refine ⟨s1.heap.objs.size + 1, [s1.heap.objs.size + 1, s1.heap.objs.size], _, _, H1, rfl, I2, turn_enumT a (s1.heap.objs.size + 1) s1.heap.objs.size (Nat.ne_of_lt hal) (Nat.ne_of_lt (Nat.lt_succ_of_lt hal)), ⟨⟨.none, he⟩, hit, Nat.succ_ne_self _⟩, fun b hb => ?_, q⟩
    have e' : b = s1.heap.objs.size + 1 ∨ b = s1.heap.objs.size := by simpa using hb
    have hle : s1.heap.objs.size ≤ b := by
      rcases e' with z | z
      · rw [z]; exact Nat.le_add_right _ _
      · rw [z]; exact Nat.le_refl _
    exact I1.fpOk hle (I1.hok.fresh hle)
theorem walk_enumT {K : PySem.W.Frag} {a : Addr} {xs : List V} : Walk (IteT K a) xs.length (fun H => SqT K H a xs) (YPair (fun i => some (.int (i : Nat))) (fun i => xs[i]?)) := by
  refine ⟨fun i _ hi q => ⟨xs, xs[i], q, by simp [hi]⟩, fun _ q => ⟨xs, q, Nat.le_refl _⟩, fun i H v H' _ q y => ?_⟩
  obtain ⟨T, x, h1, h2, h3, h4⟩ := y
  exact ⟨T, .int (i : Nat), x, h1, h2, h3, rfl, h4 xs q⟩
end GA
/-! ## GC -/
namespace GA
open PySem L2
theorem Ts.of {H H' : Hp} (k : ∀ a u, H a = some u → (∀ xs, u ≠ .lst xs) → H' a = some u) : Ts H H' := fun a xs h => h.elim (fun h => .inl (k a _ h fun _ z => nomatch z)) fun ⟨ob, h⟩ => .inr ⟨ob, k a _ h fun _ z => nomatch z⟩
theorem Ts.updl {H : Hp} {D : Addr} {xs : List V} {u : HO} (h : H D = some (.lst xs)) : Ts H (upd H D u) := Ts.of fun a w e n => by
  rw [upd_ne (ne_of e h (n xs))]; exact e
theorem Ts.trans {H H1 H2 : Hp} (a : Ts H H1) (b : Ts H1 H2) : Ts H H2 := fun x xs h => b x xs (a x xs h)
section
variable {K : PySem.W.Frag} {J : It} {n : Nat} {Gd : Hp → Prop} {Y : Nat → Hp → V → Hp → Prop} {o : Option (Addr × Addr)} {H1 : Hp} {D : Addr} {g : TG} {tt : TT} {te : TE} {vs : List Nat} {σ : L2.St} {Qd : Hp → Prop}
/-- a comprehension: what it has made as data; Pv by the turn, the data, the heap -/
theorem lc_data (wk : Walk J n Gd Y) (hn : n ≤ 100000) (hD : H1 D = none) (hh : ∀ p, o = some p → Hand H1 p.1 p.2) (Pv : Nat → List PyData → Hp → Prop)
    (stab : ∀ i acc H xs l, Pv i acc H → H D = some (.lst xs) → Pv i acc (upd H D (.lst l)))
    (h0 : Pv 0 [] (upd H1 D (.lst [])))
    (hG : ∀ i acc H, G o H1 H → Pv i acc H → Gd H)
    (hs : ∀ i x acc H H', i < n → G o H1 H → Pv i acc H → Y i H x H' → ∀ (Qy : V → Hp → Prop) (Qn : Hp → Prop), (∀ y H4 e, G o H H4 → Dp K H4 y e → nl e = true → Pv (i + 1) (acc ++ [e]) H4 → Qy y H4) → (∀ H3, G o H H3 → Pv (i + 1) acc H3 → Qn H3) →
      g x (wipe σ vs) H' fun σ2 H2 => wipe σ2 vs = wipe σ vs ∧ tt σ2 H2 fun b H3 => if b = true then te σ2 H3 Qy else Qn H3)
    (hd : ∀ ds xs H', Pv n ds H' → G o H1 H' → H' D = some (.lst xs) → DpAll K H' xs ds → nls ds = true → Qd H') :
    ∃ W : Nat → Nat → Hp → Prop, (∃ m, W 0 m (upd H1 D (.lst []))) ∧ ∀ i m H, W i m H →
      (J.stop i H ∧ Qd H) ∨ (J.go i H ∧ ∃ Nx : Hp → Prop, (∀ H', Nx H' → ∃ m', m' < m ∧ W (i + 1) m' H') ∧ ∀ x H', J.yld i H x H' → g x (wipe σ vs) H' fun σ2 H2 => wipe σ2 vs = wipe σ vs ∧ tt σ2 H2 fun b H3 =>
        if b = true then te σ2 H3 fun y H4 => ∃ acc, H4 D = some (.lst acc) ∧ acc.length < sizeLine ∧ Nx (upd H4 D (.lst (acc ++ [y]))) else Nx H3) := by
  have offD : ∀ p, o = some p → D ≠ p.1 := fun p e => (hh p e).ne hD
  refine lc_it wk (fun i H => ∃ ds xs, G o H1 H ∧ Pv i ds H ∧ H D = some (.lst xs) ∧ DpAll K H xs ds ∧ nls ds = true ∧ xs.length ≤ i) ?_ ?_ ?_ ?_
  · exact ⟨[], [], (G.refl).mut hD hh, h0, upd_same, .nil, rfl, Nat.le_refl _⟩
  · rintro i H _ ⟨ds, xs, q1, q2, _⟩
    exact hG i ds H q1 q2
  · rintro i x H H' hi ⟨ds, xs, q1, q2, q3, q4, q5, q6⟩ y
    have keepD : ∀ {H4 : Hp}, G o H H4 → H4 D = some (.lst xs) := fun g4 => g4.keep D _ offD q3
    refine hs i x ds H H' hi q1 q2 y _ _ (fun v H4 e g4 he ne hp => ?_) fun H3 g3 hp => ⟨ds, xs, q1.trans g3, hp, keepD g3, dpAll_t g3.tups _ _ q5 q4, q5, by omega⟩
    have hD4 := keepD g4
    have t4 : Ts H4 (upd H4 D (.lst (xs ++ [v]))) := Ts.updl hD4
    refine ⟨xs, hD4, Nat.lt_of_le_of_lt (by omega : xs.length ≤ 100000) (by decide), ds ++ [e], xs ++ [v], (q1.trans g4).mut hD hh, stab _ _ _ _ _ hp hD4, upd_same, ?_, ?_, ?_⟩
    · exact DpAll.app (dpAll_t (g4.tups.trans t4) _ _ q5 q4) (DpAll.one (dp_t t4 e v ne he))
    · rw [nls_iff] at q5 ⊢
      intro d hd
      rcases List.mem_append.mp hd with z | z
      · exact q5 d z
      · have : d = e := by simpa using z
        rw [this]; exact ne
    · rw [List.length_append, List.length_singleton]; omega
  · rintro H ⟨ds, xs, q1, q2, q3, q4, q5, _⟩
    exact hd ds xs H q2 q1 q3 q4 q5
/-- one whose items are told by their places -/
theorem lc_pure (wk : Walk J n Gd Y) (hn : n ≤ 100000) (hD : H1 D = none) (hh : ∀ p, o = some p → Hand H1 p.1 p.2) (f : Nat → Option PyData)
    (hG : ∀ H, G o H1 H → Gd H)
    (hs : ∀ i x H H', i < n → G o H1 H → Y i H x H' → ∀ (Qy : V → Hp → Prop) (Qn : Hp → Prop), (∀ y H4 e, G o H H4 → Dp K H4 y e → nl e = true → f i = some e → Qy y H4) → (∀ H3, G o H H3 → f i = none → Qn H3) →
      g x (wipe σ vs) H' fun σ2 H2 => wipe σ2 vs = wipe σ vs ∧ tt σ2 H2 fun b H3 => if b = true then te σ2 H3 Qy else Qn H3)
    (hd : ∀ xs H', G o H1 H' → H' D = some (.lst xs) → DpAll K H' xs ((List.range n).filterMap f) → nls ((List.range n).filterMap f) = true → Qd H') :
    ∃ W : Nat → Nat → Hp → Prop, (∃ m, W 0 m (upd H1 D (.lst []))) ∧ ∀ i m H, W i m H →
      (J.stop i H ∧ Qd H) ∨ (J.go i H ∧ ∃ Nx : Hp → Prop, (∀ H', Nx H' → ∃ m', m' < m ∧ W (i + 1) m' H') ∧ ∀ x H', J.yld i H x H' → g x (wipe σ vs) H' fun σ2 H2 => wipe σ2 vs = wipe σ vs ∧ tt σ2 H2 fun b H3 =>
        if b = true then te σ2 H3 fun y H4 => ∃ acc, H4 D = some (.lst acc) ∧ acc.length < sizeLine ∧ Nx (upd H4 D (.lst (acc ++ [y]))) else Nx H3) := by
  refine lc_data (K := K) wk hn hD hh (fun i acc _ => acc = (List.range i).filterMap f) (fun _ _ _ _ _ h _ => h) rfl (fun _ _ H q _ => hG H q) ?_ ?_
  · rintro i x acc H H' hi q1 rfl y Qy Qn ky kn
    refine hs i x H H' hi q1 y Qy Qn (fun y H4 e g4 he ne hf => ky y H4 e g4 he ne ?_) fun H3 g3 hf => kn H3 g3 ?_
    · rw [List.range_succ, List.filterMap_append]; simp [hf]
    · rw [List.range_succ, List.filterMap_append]; simp [hf]
  · rintro ds xs H' rfl q1 q2 q3 q4
    exact hd xs H' q1 q2 q3 q4
end
theorem G.at_hd {H0 H' : Hp} {hd c : Addr} (x : Hand H0 hd c) (E : ∀ a, a ≠ hd → H' a = H0 a) {i b m k : Int} (h : H' hd = some (.lst [.ref c, .int i, .int b, .int m, .int k])) (hi : 0 ≤ i) : G (some (hd, c)) H0 H' ∧ Hand H' hd c := by
  obtain ⟨n, ⟨ns, h1⟩, i0, b0, m0, k0, h2, h3⟩ := x
  have hh : Hand H' hd c := ⟨n, ⟨ns, by rw [E c n]; exact h1⟩, i, b, m, k, h, hi⟩
  refine ⟨⟨fun a u z e => ?_, fun a xs e => ?_, fun p e _ => ?_⟩, hh⟩
  · rw [E a (z _ rfl)]; exact e
  · have na : a ≠ hd := by
      rcases e with e | ⟨ob, e⟩
      · exact ne_of e h2 (by intro z; cases z)
      · exact ne_of e h2 (by intro z; cases z)
    rcases e with e | ⟨ob, e⟩
    · exact .inl (by rw [E a na]; exact e)
    · exact .inr ⟨ob, by rw [E a na]; exact e⟩
  · cases e; exact hh
theorem mem_cutV {xs : List V} {lo hi : Option Int} {v : V} (h : v ∈ cutV xs lo hi) : v ∈ xs := by
  unfold cutV at h
  exact List.mem_of_mem_drop (List.mem_of_mem_take h)
theorem ints_of {xs : List V} (h : ∀ v ∈ xs, ∃ n : Int, v = .int n) : ∃ ns : List Int, xs = ns.map V.int := by
  induction xs with
  | nil => exact ⟨[], rfl⟩
  | cons x xs ih =>
    obtain ⟨n, rfl⟩ := h x List.mem_cons_self
    obtain ⟨ns, rfl⟩ := ih fun v hv => h v (List.mem_cons_of_mem _ hv)
    exact ⟨n :: ns, rfl⟩
/-! new objects, told by what they leave -/
theorem PE.weak {X : Cx} {e : Expr} {t t' : TE} (h : PE X e t) (w : ∀ σ H Q, t' σ H Q → t σ H Q) : PE X e t' := ⟨fun pins s σ H Q I q => h.run pins s σ H Q I (w σ H Q q)⟩
theorem CallR.weak {X : Cx} {f : Value} {r r' : List V → Hp → VK → Prop} (h : CallR X f r) (w : ∀ xs H Q, r' xs H Q → r xs H Q) : CallR X f r' := fun pins s σ H xs us Q I rv q => h pins s σ H xs us Q I rv (w xs H Q q)
theorem OpR.weak {X : Cx} {f : Value → Value → Sem Value} {r r' : R2} (h : OpR X f r) (w : ∀ x y H Q, r' x y H Q → r x y H Q) : OpR X f r' := fun pins s σ H x y v u Q I r1 r2 q => h pins s σ H x y v u Q I r1 r2 (w x y H Q q)
theorem SlR.weak {X : Cx} {r r' : V → Option Int → Option Int → Hp → VK → Prop} (h : SlR X r) (w : ∀ x l u H Q, r' x l u H Q → r x l u H Q) : SlR X r' := fun pins s σ H x v vl vu lo hi sl Q I r1 hs pl pu q => h pins s σ H x v vl vu lo hi sl Q I r1 hs pl pu (w x lo hi H Q q)
/-- for each new object u at p: F p H2 -/
def New (H : Hp) (u : HO) (F : Addr → Hp → Prop) : Prop := ∀ p H2, H p = none → (∀ o, G o H H2) → H2 p = some u → F p H2
theorem New.go {H : Hp} {u : HO} {F : Addr → Hp → Prop} (h : New H u F) {p : Addr} (hp : H p = none) : F p (upd H p u) := h p _ hp (fun _ => G.alloc hp) upd_same
def tTupN (t : TA) : TE := fun σ H Q => t σ H fun xs H1 => xs.length ≤ sizeLine ∧ New H1 (.tup xs) fun p H2 => Q (.ref p) H2
def tLstN (t : TA) : TE := fun σ H Q => t σ H fun xs H1 => xs.length ≤ sizeLine ∧ New H1 (.lst xs) fun p H2 => Q (.ref p) H2
section
variable {X : Cx} {es : List Expr} {t : TA} {pos : Pos}
theorem pe_tupN {x1} (h : PA X es t) : PE X (.Tuple es x1 pos) (tTupN t) := by
  have h' : PA X es (fun σ H QA => t σ H QA) := h
  refine ⟨fun pins s σ H Q I q => ?_⟩
  have hm : PA X es (fun σ H QA => t σ H (fun xs H1 => xs.length ≤ sizeLine ∧ New H1 (.tup xs) fun p H2 => Q (.ref p) H2) ∧ ∀ xs H1, (xs.length ≤ sizeLine ∧ New H1 (.tup xs) fun p H2 => Q (.ref p) H2) → QA xs H1) :=
    ⟨fun pos pins s σ H QA I q => wpAny_mono (h.run pos pins s σ H _ I q.1) (fun us s1 ⟨vs, H1, I1, r, z⟩ => ⟨vs, H1, I1, r, q.2 vs H1 z⟩) fun _ _ z => z⟩
  exact (pe_tup hm).run pins s σ H Q I ⟨q, fun xs H1 z => ⟨z.1, fun p hp => z.2.go hp⟩⟩
theorem pe_lstN (h : PA X es t) : PE X (.List es pos) (tLstN t) := by
  refine ⟨fun pins s σ H Q I q => ?_⟩
  have hm : PA X es (fun σ H QA => t σ H (fun xs H1 => xs.length ≤ sizeLine ∧ New H1 (.lst xs) fun p H2 => Q (.ref p) H2) ∧ ∀ xs H1, (xs.length ≤ sizeLine ∧ New H1 (.lst xs) fun p H2 => Q (.ref p) H2) → QA xs H1) :=
    ⟨fun pos pins s σ H QA I q => wpAny_mono (h.run pos pins s σ H _ I q.1) (fun us s1 ⟨vs, H1, I1, r, z⟩ => ⟨vs, H1, I1, r, q.2 vs H1 z⟩) fun _ _ z => z⟩
  exact (pe_lst hm).run pins s σ H Q I ⟨q, fun xs H1 z => ⟨z.1, fun p hp => z.2.go hp⟩⟩
end
/-- tuple(a list): a new tuple; tuple(a tuple): itself -/
def rTupleN (K : PySem.W.Frag) : List V → Hp → VK → Prop := fun xs H Q => ∃ p ys, xs = [.ref p] ∧ ((SqL K H p ys ∧ New H (.tup ys) fun l H2 => Q (.ref l) H2) ∨ (SqT K H p ys ∧ Q (.ref p) H))
theorem call_tupleN {X : Cx} : CallR X (.type "tuple") (rTupleN X.K) := CallR.weak call_tuple_of fun xs H Q h => by
  obtain ⟨p, ys, e, h | h⟩ := h
  · exact ⟨p, ys, e, .inl ⟨h.1, fun l hl => h.2.go hl⟩⟩
  · exact ⟨p, ys, e, .inr h⟩
def rListN (K : PySem.W.Frag) : List V → Hp → VK → Prop := fun xs H Q => ∃ p ys, xs = [.ref p] ∧ (SqL K H p ys ∨ SqT K H p ys) ∧ New H (.lst ys) fun l H2 => Q (.ref l) H2
theorem call_listN {X : Cx} : CallR X (.type "list") (rListN X.K) := CallR.weak call_list_of fun xs H Q h => by
  obtain ⟨p, ys, e, h, q⟩ := h
  exact ⟨p, ys, e, h, fun l hl => q.go hl⟩
theorem w_tupN {σ : L2.St} {H : Hp} {Q : VK} {tr : TA} (q : tr σ H fun xs H1 => xs.length ≤ sizeLine ∧ New H1 (.tup xs) fun p H2 => Q (.ref p) H2) : tTupN tr σ H Q := q
theorem w_lstN {σ : L2.St} {H : Hp} {Q : VK} {tr : TA} (q : tr σ H fun xs H1 => xs.length ≤ sizeLine ∧ New H1 (.lst xs) fun p H2 => Q (.ref p) H2) : tLstN tr σ H Q := q
/-- for up to so many items -/
theorem sz {n : Nat} (h : n ≤ 100000) : n ≤ sizeLine := Nat.le_trans h (by decide)
theorem filterMap_range_map {α β : Type} (l : List α) (f : α → β) : (List.range l.length).filterMap (fun i => (l[i]?).map f) = l.map f := by
  induction l with
  | nil => rfl
  | cons a l ih =>
    rw [List.length_cons, List.range_succ_eq_map, List.filterMap_cons, List.filterMap_map]
    simp only [List.getElem?_cons_zero, Option.map_some, List.map_cons]
    congr 1
theorem filterMap_range_fm {α β : Type} (l : List α) (f : α → Option β) : (List.range l.length).filterMap (fun i => (l[i]?).bind f) = l.filterMap f := by
  induction l with
  | nil => rfl
  | cons a l ih =>
    rw [List.length_cons, List.range_succ_eq_map, List.filterMap_cons, List.filterMap_map, List.filterMap_cons]
    simp only [List.getElem?_cons_zero, Option.bind_some]
    cases f a with
    | none => exact ih
    | some b => simp only []; congr 1
section
variable {K : PySem.W.Frag} {σ : L2.St} {H : Hp} {Q : VK} {D : Ends}
theorem w_lc {wi : TI} {g : TG} {tt : TT} {te : TE} {vs : List Nat} (q : wi σ H fun J H1 => ∀ D, H1 D = none → ∃ W : Nat → Nat → Hp → Prop, (∃ m, W 0 m (upd H1 D (.lst []))) ∧ ∀ i m H, W i m H →
  (J.stop i H ∧ Q (.ref D) H) ∨ (J.go i H ∧ ∃ Nx : Hp → Prop, (∀ H', Nx H' → ∃ m', m' < m ∧ W (i + 1) m' H') ∧ ∀ x H', J.yld i H x H' → g x (wipe σ vs) H' fun σ2 H2 => wipe σ2 vs = wipe σ vs ∧ tt σ2 H2 fun b H3 =>
    if b = true then te σ2 H3 fun y H4 => ∃ acc, H4 D = some (.lst acc) ∧ acc.length < sizeLine ∧ Nx (upd H4 D (.lst (acc ++ [y]))) else Nx H3)) : tLc wi g tt te vs σ H Q := q
theorem w_nt {A B : Prop} (q : B) : if (!true) = true then A else B := q
theorem w_nf {A B : Prop} (q : A) : if (!false) = true then A else B := q
theorem w_iteE {b : Bool} {A B : Prop} (e : b = true) (q : A) : if b = true then A else B := by rw [if_pos e]; exact q
theorem w_iteN {b : Bool} {A B : Prop} (e : b = false) (q : B) : if b = true then A else B := by rw [e]; exact q
theorem w_isN {te : TE} (q : te σ H fun x H1 => Q (.bl (decide (x = .non))) H1) : tIsN te σ H Q := q
theorem w_notN {te : TE} (q : te σ H fun x H1 => Q (.bl (!decide (x = .non))) H1) : tNotN te σ H Q := q
theorem w_seqM {ts tu : TS} (M : L2.St → Hp → Prop) (h1 : ∀ N : L2.St → Hp → Prop, (∀ σ' H', M σ' H' → N σ' H') → ts { D with nx := N } σ H) (h2 : ∀ σ' H', M σ' H' → tu D σ' H') : tSeq ts tu D σ H := h1 _ h2
theorem w_make {C : Addr} {sp : Sp} {E : XK} {tr : TA} (q : tr σ H fun vs H1 => ∀ x dx, H1 x = none → H1 dx = none → dx ≠ x → sp (.ref x :: (vs ++ [])) (upd (upd H1 dx (.own x)) x (.ins C dx [])) (fun v H2 => v = .non ∧ Q (.ref x) H2) E) : tMake C sp [] E tr σ H Q := q
theorem w_yes {QB : Bool → Hp → Prop} (q : QB true H) : tYes σ H QB := q
theorem w_for {wi : TI} {g : TG} {tb : TS} (q : wi σ H fun J H1 => ∃ W : Nat → Nat → L2.St → Hp → Prop, (∃ m, W 0 m σ H1) ∧ ∀ i m σ H, W i m σ H →
  (J.stop i H ∧ D.nx σ H) ∨ (J.go i H ∧ ∃ N : L2.St → Hp → Prop, (∀ σ' H', N σ' H' → ∃ m', m' < m ∧ W (i + 1) m' σ' H') ∧ ∀ x H', J.yld i H x H' → g x σ H' fun σ2 H2 => tb { D with nx := N, ct := N, bk := D.nx } σ2 H2)) : tFor wi g tb D σ H := q
variable {R : It → Hp → Prop} {ta : TA} {te : TE}
theorem w_rng1 (q : ta σ H fun vs H1 => ∃ j : Int, vs = [.int j] ∧ -(2 ^ 62) ≤ j ∧ j < 2 ^ 62 ∧ R (Itr 0 j.toNat) H1) : iRng1 ta σ H R := q
theorem w_rng2 (q : ta σ H fun vs H1 => ∃ i j : Int, vs = [.int i, .int j] ∧ (-(2 ^ 62) ≤ i ∧ i < 2 ^ 62 ∧ -(2 ^ 62) ≤ j ∧ j < 2 ^ 62) ∧ R (Itr i (j - i).toNat) H1) : iRng2 ta σ H R := q
theorem w_itup (q : te σ H fun x H1 => ∃ a, x = .ref a ∧ (∃ xs, SqT K H1 a xs) ∧ R (Itt K a) H1) : iTup K te σ H R := q
theorem w_ilist (q : te σ H fun x H1 => ∃ a, x = .ref a ∧ (∃ xs, SqL K H1 a xs) ∧ R (Itl K a) H1) : iList K te σ H R := q
theorem w_ienum (q : ta σ H fun vs H1 => ∃ a xs, vs = [.ref a] ∧ SqT K H1 a xs ∧ R (IteT K a) H1) : iEnumT K ta σ H R := q
theorem w_izip (q : ta σ H fun vs H1 => ∃ a b xs ys, vs = [.ref a, .ref b] ∧ ((SqL K H1 a xs ∧ SqL K H1 b ys ∧ R (Itz K a b) H1) ∨ (SqT K H1 a xs ∧ SqT K H1 b ys ∧ R (RZ.ItzT K a b) H1))) : RZ.iZipA K ta σ H R := q
theorem w_BM {T : String} {r : V → List V → Hp → VK → Prop} {to : TE} (q : to σ H fun x H1 => tyV K T x H1 ∧ ta σ H1 fun xs H2 => r x xs H2 Q) : tBM K T r to ta σ H Q := q
theorem w_BM0 {T : String} {r : V → List V → Hp → VK → Prop} {to : TE} (q : to σ H fun x H1 => tyV K T x H1 ∧ r x [] H1 Q) : tBM0 K T r to σ H Q := q
theorem i_BM {l : Addr} {xs : List V} {F : Prop} (h : H l = some (.lst xs)) (q : F) : tyV K "list" (.ref l) H ∧ F := ⟨.inl ⟨rfl, _, SqL.of h⟩, q⟩
theorem r_app {l : Addr} {xs : List V} {y : V} (h : H l = some (.lst xs)) (hz : xs.length ≤ 90000) (q : Q .non (upd H l (.lst (xs ++ [y])))) : rAppend (.ref l) [y] H Q := ⟨l, xs, y, rfl, rfl, h, Nat.lt_of_le_of_lt hz (by decide), q⟩
theorem i_rng1 {F : Int → Prop} {j : Int} (h1 : 0 ≤ j) (h2 : j ≤ 100000) (q : F j) : ∃ k : Int, [V.int j] = [.int k] ∧ -(2 ^ 62) ≤ k ∧ k < 2 ^ 62 ∧ F k := ⟨j, rfl, by omega, by omega, q⟩
theorem i_rng2 {F : Int → Int → Prop} {i j : Int} (h : -100000 ≤ i ∧ i ≤ 100000 ∧ -100000 ≤ j ∧ j ≤ 100000) (q : F i j) : ∃ k l : Int, [V.int i, V.int j] = [.int k, .int l] ∧ (-(2 ^ 62) ≤ k ∧ k < 2 ^ 62 ∧ -(2 ^ 62) ≤ l ∧ l < 2 ^ 62) ∧ F k l := ⟨i, j, rfl, by omega, q⟩
theorem i_tup {F : Addr → Prop} {a : Addr} {xs : List V} (h : SqT K H a xs) (q : F a) : ∃ b, V.ref a = .ref b ∧ (∃ xs, SqT K H b xs) ∧ F b := ⟨a, rfl, ⟨xs, h⟩, q⟩
theorem i_list {F : Addr → Prop} {a : Addr} {xs : List V} (h : SqL K H a xs) (q : F a) : ∃ b, V.ref a = .ref b ∧ (∃ xs, SqL K H b xs) ∧ F b := ⟨a, rfl, ⟨xs, h⟩, q⟩
theorem i_enum {F : Addr → Prop} {a : Addr} {xs : List V} (h : SqT K H a xs) (q : F a) : ∃ (b : Addr) (ys : List V), [V.ref a] = [.ref b] ∧ SqT K H b ys ∧ F b := ⟨a, xs, rfl, h, q⟩
end
end GA
/-! ## GD -/
namespace GA
open PySem L2
/-! ### data within data -/
def rInDT (K : PySem.W.Frag) : R2 := fun x y H Q => ∃ d ds, Dp K H x d ∧ Dp K H y (.tuple ds) ∧ SeqAt.shaped d = true ∧ SeqAt.shaped (.tuple ds) = true ∧ Q (.bl (ds.any fun z => PyData.eqv z d)) H
theorem op_inDT {X : Cx} (hu : X.A.units + 65 < cLine) : OpR X (compareOp .In) (rInDT X.K) := by
  intro pins s σ H x y v u Q I rx ry h
  obtain ⟨d, ds, hd, he, sd, se, q⟩ := h
  obtain ⟨as, r1⟩ := Dp.reads I d x v hd rx
  obtain ⟨bs, r2⟩ := Dp.reads I (.tuple ds) y u he ry
  exact SeqAt.in_tuple_reads r2 r1 (SeqAt.canLay_of_shaped se) (SeqAt.canLay_of_shaped sd) (PyProof.Rows.room_in_shaped sd hu) ⟨.bl _, H, I, rfl, q⟩
theorem u65 {k : Nat} {A : Around} (hr : Room k A) : A.units + 65 < cLine := by
  have := hr.un
  omega
theorem canAll {ds : List PyData} (h : ∀ d ∈ ds, d.canLay0 = true) : PyData.canLayAll0 ds = true := by
  induction ds with
  | nil => rfl
  | cons d ds ih => rw [PyData.canLayAll0, h d List.mem_cons_self, ih fun e he => h e (List.mem_cons_of_mem _ he)]; rfl
theorem depAll {n : Nat} {ds : List PyData} (h : ∀ d ∈ ds, d.depth ≤ n) : PyData.depthAll ds ≤ n := by
  induction ds with
  | nil => rw [PyData.depthAll]; exact Nat.zero_le _
  | cons d ds ih =>
    rw [PyData.depthAll]
    have h1 := h d List.mem_cons_self
    have h2 := ih fun e he => h e (List.mem_cons_of_mem _ he)
    omega
theorem sh_of {d : PyData} (h1 : d.canLay0 = true) (h2 : d.depth ≤ 64) : SeqAt.shaped d = true := by
  unfold SeqAt.shaped
  rw [h1, decide_eq_true h2]; rfl
theorem dep_tup {n : Nat} {ds : List PyData} (h : ∀ d ∈ ds, d.depth ≤ n) : (PyData.tuple ds).depth ≤ n + 1 := by
  rw [PyData.depth]
  have := depAll h
  omega
theorem can_tup {ds : List PyData} (h : ∀ d ∈ ds, d.canLay0 = true) : (PyData.tuple ds).canLay0 = true := by
  rw [PyData.canLay0]; exact canAll h
theorem can_int {n : Int} : (PyData.int n).canLay0 = true := by simp [PyData.canLay0]
theorem dep_int {n : Int} : (PyData.int n).depth = 0 := by simp [PyData.depth]
theorem can_dI (ns : List Int) : (dI ns).canLay0 = true := can_tup fun d h => by
  obtain ⟨n, _, rfl⟩ := List.mem_map.mp h
  exact can_int
theorem dep_dI (ns : List Int) : (dI ns).depth ≤ 1 := dep_tup (n := 0) fun d h => by
  obtain ⟨n, _, rfl⟩ := List.mem_map.mp h
  rw [dep_int]; exact Nat.le_refl _
theorem can_dP (w : Int × Int) : (dP w).canLay0 = true := can_dI [w.1, w.2]
theorem dep_dP (w : Int × Int) : (dP w).depth ≤ 1 := dep_dI [w.1, w.2]
theorem can_dW (ws : List (Int × Int)) : (dW ws).canLay0 = true := can_tup fun d h => by
  obtain ⟨n, _, rfl⟩ := List.mem_map.mp h
  exact can_dP n
theorem dep_dW (ws : List (Int × Int)) : (dW ws).depth ≤ 2 := dep_tup (n := 1) fun d h => by
  obtain ⟨n, _, rfl⟩ := List.mem_map.mp h
  exact dep_dP n
theorem sh_dI (ns : List Int) : SeqAt.shaped (dI ns) = true := sh_of (can_dI ns) (Nat.le_trans (dep_dI ns) (by decide))
theorem sh_dP (w : Int × Int) : SeqAt.shaped (dP w) = true := sh_of (can_dP w) (Nat.le_trans (dep_dP w) (by decide))
theorem sh_dW (ws : List (Int × Int)) : SeqAt.shaped (dW ws) = true := sh_of (can_dW ws) (Nat.le_trans (dep_dW ws) (by decide))
theorem eqv_int {i j : Int} : PyData.eqv (.int i) (.int j) = decide (i = j) := by
  rw [PyData.eqv]; exact Bool.beq_eq_decide_eq i j
theorem eqvAll_map {α : Type} [DecidableEq α] {f : α → PyData} (h : ∀ x y, PyData.eqv (f x) (f y) = decide (x = y)) : ∀ (xs ys : List α), PyData.eqvAll (xs.map f) (ys.map f) = decide (xs = ys)
  | [], [] => by simp [PyData.eqvAll]
  | [], y :: ys => by simp [PyData.eqvAll]
  | x :: xs, [] => by simp [PyData.eqvAll]
  | x :: xs, y :: ys => by
    rw [List.map_cons, List.map_cons, PyData.eqvAll, h, eqvAll_map h xs ys]
    simp only [List.cons.injEq]
    by_cases h1 : x = y <;> by_cases h2 : xs = ys <;> simp [h1, h2]
theorem eqv_dI (ns ms : List Int) : PyData.eqv (dI ns) (dI ms) = decide (ns = ms) := by
  rw [PyData.eqv]; exact eqvAll_map (fun _ _ => eqv_int) ns ms
theorem eqv_dP (u v : Int × Int) : PyData.eqv (dP u) (dP v) = decide (u = v) := by
  have := eqv_dI [u.1, u.2] [v.1, v.2]
  have e : decide (([u.1, u.2] : List Int) = [v.1, v.2]) = decide (u = v) := by
    rw [decide_eq_decide]
    constructor
    · intro h
      injection h with h1 h2
      injection h2 with h2 _
      exact Prod.ext h1 h2
    · intro h; rw [h]
  rw [← e]; exact this
theorem eqv_dW (us ws : List (Int × Int)) : PyData.eqv (dW us) (dW ws) = decide (us = ws) := by
  rw [PyData.eqv]; exact eqvAll_map eqv_dP us ws
theorem any_dP (ws : List (Int × Int)) (u : Int × Int) : ((ws.map dP).any fun z => PyData.eqv z (dP u)) = decide (u ∈ ws) := by
  rw [List.any_map]
  have : (fun z => PyData.eqv z (dP u)) ∘ dP = fun z => decide (z = u) := by
    funext z; exact eqv_dP z u
  rw [this]
  induction ws with
  | nil => simp
  | cons w ws ih =>
    rw [List.any_cons, ih]
    by_cases h : w = u
    · simp [h]
    · have h' : ¬ u = w := fun e => h e.symm
      simp [h, h']
/-! the rules with the written part told: for a comprehension's block -/
section
variable {X : Cx}
theorem k_ix_tup (K : PySem.W.Frag) (hK : X.K = K := by rfl) : IxR X (rIxT K) := by subst hK; exact ix_tup
theorem k_ix_list (K : PySem.W.Frag) (hK : X.K = K := by rfl) : IxR X (rIxL K) := by subst hK; exact ix_list
theorem k_op_in_seq (K : PySem.W.Frag) (hK : X.K = K := by rfl) : OpR X (compareOp .In) (rIn K false) := by subst hK; exact op_in_seq
theorem k_op_notIn_seq (K : PySem.W.Frag) (hK : X.K = K := by rfl) : OpR X (compareOp .NotIn) (rIn K true) := by subst hK; exact op_notIn_seq
theorem k_call_isi (K : PySem.W.Frag) (hK : X.K = K := by rfl) : CallR X (.builtin "isinstance") (rIsi K) := by subst hK; exact call_isi
theorem k_call_isiT (K : PySem.W.Frag) (hK : X.K = K := by rfl) : CallR X (.builtin "isinstance") (rIsiT K) := by subst hK; exact call_isiT
theorem k_call_tupleN (K : PySem.W.Frag) (hK : X.K = K := by rfl) : CallR X (.type "tuple") (rTupleN K) := by subst hK; exact call_tupleN
theorem k_call_listN (K : PySem.W.Frag) (hK : X.K = K := by rfl) : CallR X (.type "list") (rListN K) := by subst hK; exact call_listN
theorem k_op_inDT (K : PySem.W.Frag) (hu : X.A.units + 65 < cLine) (hK : X.K = K := by rfl) : OpR X (compareOp .In) (rInDT K) := by subst hK; exact op_inDT hu
theorem k_op_eqD (K : PySem.W.Frag) (hu : X.A.units + 64 < cLine) (hK : X.K = K := by rfl) : OpR X (compareOp .Eq) (rEqD K) := by subst hK; exact op_eqD hu
theorem k_op_neD (K : PySem.W.Frag) (hu : X.A.units + 64 < cLine) (hK : X.K = K := by rfl) : OpR X (compareOp .NotEq) (rNeD K) := by subst hK; exact op_neD hu
theorem k_cr_all (K : PySem.W.Frag) (hc : X.calm = true) (hK : X.K = K := by rfl) : CallR X (.builtin "all") (rAll K) := by subst hK; exact cr_all hc
/-- len of a list or tuple -/
def rLenK (K : PySem.W.Frag) : List V → Hp → VK → Prop := fun xs H Q => ∃ p ys, xs = [.ref p] ∧ (SqL K H p ys ∨ SqT K H p ys) ∧ Q (.int ys.length) H
theorem k_call_len_seq (K : PySem.W.Frag) (hK : X.K = K := by rfl) : CallR X (.builtin "len") (rLenK K) := by subst hK; exact call_len_seq
theorem k_fld (K : PySem.W.Frag) {e : Expr} {f : Str} {pos : Pos} {ta : TE} (he : PE X e ta) (hb : attributeBase e f X.env (eval e X.env) = eval e X.env) (hK : X.K = K := by rfl) : PE X (.Attribute e f pos) (tFld K ta f) := by subst hK; exact pe_fld he hb
theorem k_pi_list (K : PySem.W.Frag) {tg l : Expr} {tl : TE} (hl : PE X l tl) (hK : X.K = K := by rfl) : PI X tg l (iList K tl) := by subst hK; exact pi_list hl
theorem k_pi_tup (K : PySem.W.Frag) {tg l : Expr} {tl : TE} (hl : PE X l tl) (hK : X.K = K := by rfl) : PI X tg l (iTup K tl) := by subst hK; exact pi_tup hl
end
end GA
/-! ## GE -/
namespace PyProof.Rows
open PySem
section
variable {prog : Program} {w : World} {A : Around} {E : Value → Shared → Prop} {s : Shared}
theorem ga_collect_tuple {l : Addr} {vs : List Value} {Q : List Value → Shared → Prop} (hl : s.heap.IsTuple l vs.toArray)
    (h : Q vs { s with heap := (s.heap.push (seqObj "list" #[] 0)).update s.heap.objs.size (Obj.mapSeq (· ++ vs.toArray)) }) (hsz : vs.length ≤ sizeLine := by size_fits) :
    wpAny (model prog w) A (collect (.ref l)) Q E s := by
  obtain ⟨o, ho, hc, n, hd⟩ := id hl
  unfold collect
  refine wpAny_bind (wpAny_runValue (codeAny_builtin entry_proto_collect' ?_))
  show wpAny _ _ (do again (.builtin "list.__iadd__" ⟨[← newList [], .ref l], []⟩)) _ _ s
  refine wpAny_bind (wpAny_newList (wpAny_pure ⟨Code.quiet_builtin _ (by decide +kernel), codeAny_builtin entry_list_iadd' ?_⟩))
  show wpAny _ _ (Builtin.List.listExtendWith (.ref s.heap.objs.size) (.ref l) (.ref s.heap.objs.size)) _ _ { s with heap := s.heap.push (seqObj "list" #[] 0) }
  unfold Builtin.List.listExtendWith
  have ho' : (s.heap.push (seqObj "list" #[] 0)).get? l = some o := Heap.get?_push_of_some _ ho
  refine wpAny_bind (wpAny_typeOf (T := "tuple") ⟨o, ho', hc⟩ ?_)
  have ht : (Value.type "tuple" == Value.type "tuple") = true := by rfl
  rw [if_pos (by rw [ht]; simp)]
  refine wpAny_bind (listItems_at ho' hd ?_)
  refine wpAny_bind (listItems_at (xs := #[]) (n := 0) (Heap.get?_push_size _ rfl) rfl ?_)
  rw [if_neg (by simp)]
  refine wpAny_bind (listUpdate_at (xs := #[]) (n := 0) (Heap.get?_push_size _ rfl) rfl ?_ (Nat.zero_le _) (by show (#[] ++ vs.toArray).size ≤ sizeLine + 1; simp only [Array.size_append, List.size_toArray, List.length_nil]; omega))
  refine wpAny_pure ?_
  show wpAny (model prog w) A (do
      let o ← load s.heap.objs.size
      match o.data with
      | .seq xs _ => pure xs.toList
      | _ => unsupported "internal:collect") Q E { s with heap := (s.heap.push (seqObj "list" #[] 0)).update s.heap.objs.size (Obj.mapSeq (· ++ vs.toArray)) }
  refine wpAny_bind (wpAny_load (get?_update_seq (Heap.get?_push_size _ rfl) _) ?_)
  show wpAny _ _ (pure ((#[] : Array Value) ++ vs.toArray).toList) Q E _
  rw [show ((#[] : Array Value) ++ vs.toArray).toList = vs by simp]
  exact wpAny_pure h
end
end PyProof.Rows
namespace SrtO
open PySem PyProof.Rows Srt
section
variable {prog : Program} {w : World} {A : Around} {E : Value → Shared → Prop} {s : Shared}
theorem ga_sorted_ordT {l : Addr} {vs : List Value} {ltv : Value → Value → Bool} {Q : Value → Shared → Prop} (O : Swo ltv) (hl : s.heap.IsTuple l vs.toArray) (hz : vs.length ≤ sizeLine)
    (hS : 2 ≤ vs.length → ∀ (h₁ : Heap) (a : Addr), h₁.get? a = some (seqObj "list" vs.toArray 0) → (∀ b o, s.heap.get? b = some o → b ≠ a ∧ h₁.get? b = some o) → SortableO prog w A.in1.in1 { s with heap := h₁ } a vs ltv)
    (h : ∀ out : List Value, Srtd ltv out → Stb ltv out vs → Q (.ref (s.heap.objs.size + 1)) { s with heap := sortedAll s.heap vs out.toArray }) :
    wpAny (model prog w) A (call (.builtin "sorted") [.ref l]) Q E s := by
  refine Calls.call_function_entry kind_sorted plain_sorted entry_sorted (args_sorted1 _) ?_
  unfold Builtin.«sorted»
  refine wpAny_bind (m := checkCount "sorted" 1 1 _) (wpAny_pure ?_)
  refine wpAny_bind (ga_collect_tuple hl ?_ hz)
  refine wpAny_bind (wpAny_newList ?_ hz)
  have hsz : ((s.heap.push (seqObj "list" #[] 0)).update s.heap.objs.size (Obj.mapSeq (· ++ vs.toArray))).objs.size = s.heap.objs.size + 1 := by
    rw [Heap.size_update, size_push']
  have hoL : (((s.heap.push (seqObj "list" #[] 0)).update s.heap.objs.size (Obj.mapSeq (· ++ vs.toArray))).push (seqObj "list" vs.toArray 0)).get? (s.heap.objs.size + 1) = some (seqObj "list" vs.toArray 0) := by
    rw [← hsz]; exact Heap.get?_push_size _ rfl
  have keep : ∀ b o, s.heap.get? b = some o → b ≠ s.heap.objs.size + 1 ∧ (((s.heap.push (seqObj "list" #[] 0)).update s.heap.objs.size (Obj.mapSeq (· ++ vs.toArray))).push (seqObj "list" vs.toArray 0)).get? b = some o := fun b o q => by
    have hlt : b < s.heap.objs.size := Heap.lt_size q
    refine ⟨Nat.ne_of_lt (Nat.lt_succ_of_lt hlt), Heap.get?_push_of_some _ ?_⟩
    rw [Heap.get?_update_ne _ _ _ _ (Nat.ne_of_lt hlt)]
    exact Heap.get?_push_of_some _ q
  show wpAny _ _ _ _ _ { s with heap := ((s.heap.push (seqObj "list" #[] 0)).update s.heap.objs.size (Obj.mapSeq (· ++ vs.toArray))).push (seqObj "list" vs.toArray 0) }
  rw [hsz]
  refine wpAny_bind (wpAny_holding (wpAny_call_entry slot_list_sort ⟨_, hoL, rfl⟩ entry_list_sort (list_sort_ord O hoL hz (fun h2 => hS h2 _ _ hoL keep) fun out hs hb => ⟨_, rfl, ?_⟩) (args_list_sort _)))
  exact wpAny_pure ⟨_, rfl, h out hs hb⟩
end
end SrtO
namespace GA
open PySem PySem.Spec PyProof.Rows L2
/-- sorted(t), t a tuple of ints -/
def rSortedIT (K : PySem.W.Frag) : List V → Hp → VK → Prop := fun vs H Q => ∃ (a : Addr) (ns : List Int), vs = [V.ref a] ∧ SqT K H a (ns.map V.int) ∧
  ∀ (ns' : List Int), ns'.Perm ns → ns'.Pairwise (· ≤ ·) → New H (.lst (ns'.map V.int)) fun p H2 => Q (.ref p) H2
theorem cr_sortedIT {X : Cx} : CallR X (.builtin "sorted") (rSortedIT X.K) := by
  intro pins s σ H vs us Q I r h
  obtain ⟨a, ns, rfl, hs, q⟩ := h
  obtain ⟨its, rv, hl, hz⟩ := I.tuple hs
  rw [Vals.ref1 r]
  have hi := rv.ints
  refine SrtO.ga_sorted_ordT SrtO.swo_int hl (by rw [← rv.length]; exact hz) (fun h2 h₁ a' _ _ => SrtO.ints_sortable hi h2) fun out h1 h2 => ?_
  obtain ⟨k1, k2, k3⟩ := SrtO.ints_out hi h1 h2
  obtain ⟨ep, he'⟩ := PyProof.Rows.sortedAll_at s.heap its out.toArray
  have hlen : ((out.map SrtO.iv).map V.int).length ≤ sizeLine := by
    rw [List.length_map, k2.length_eq]
    rw [List.length_map] at hz
    exact hz
  exact ⟨.ref _, upd H (s.heap.objs.size + 1) (.lst ((out.map SrtO.iv).map V.int)), I.laid (t' := s.toks) (fun _ _ => PyProof.Rows.sortedAll_old) (Nat.le_succ _) ⟨hlen, out, ep, vals_of_ints k1, he'⟩, rfl, (q _ k2 k3).go (I.hok.fresh (Nat.le_succ _))⟩
def rSortedIL (K : PySem.W.Frag) : List V → Hp → VK → Prop := fun vs H Q => ∃ (a : Addr) (ns : List Int), vs = [V.ref a] ∧ SqL K H a (ns.map V.int) ∧
  ∀ (ns' : List Int), ns'.Perm ns → ns'.Pairwise (· ≤ ·) → New H (.lst (ns'.map V.int)) fun p H2 => Q (.ref p) H2
theorem cr_sortedIL {X : Cx} : CallR X (.builtin "sorted") (rSortedIL X.K) := CallR.weak cr_sortedI fun xs H Q h => by
  obtain ⟨a, ns, e, h1, q⟩ := h
  exact ⟨a, ns, e, h1, fun ns' p k1 k2 hp => (q ns' k1 k2).go hp⟩
/-- sorted(d), d a dict with int keys -/
def rSortedDN : List V → Hp → VK → Prop := fun xs H Q => ∃ (a : Addr) (kvs : List (Key × V)) (ks : List Int), xs = [.ref a] ∧ H a = some (.dK kvs) ∧ kvs.map (·.1) = ks.map Sum.inl ∧ ks.length < 64 ∧
  ∀ (ns' : List Int), ns'.Perm ks → ns'.Pairwise (· ≤ ·) → New H (.lst (ns'.map V.int)) fun p H2 => Q (.ref p) H2
theorem cr_sortedDN {X : Cx} (hc : X.calm = true) : CallR X (.builtin "sorted") rSortedDN := CallR.weak (call_sortedDI hc) fun xs H Q h => by
  obtain ⟨a, kvs, ks, e, h1, h2, h3, q⟩ := h
  exact ⟨a, kvs, ks, e, .inl h1, h2, h3, fun ys p k1 k2 hp => (q ys k1 k2).go hp⟩
/-- list(range(..)) -/
def tLstRgN (te : L2.St → Hp → (Int → Int → Hp → Prop) → Prop) : TE := fun σ H Q => te σ H fun a b H1 => RgOk a b ∧ New H1 (.lst (rgV a b)) fun q H2 => Q (.ref q) H2
/-- a range's ends, told: whatever is wanted is wanted of less -/
def MoR (te : L2.St → Hp → (Int → Int → Hp → Prop) → Prop) : Prop := ∀ σ H F F', (∀ a b H1, F a b H1 → F' a b H1) → te σ H F → te σ H F'
theorem pe_listRgN {X : Cx} {e : Expr} {te : L2.St → Hp → (Int → Int → Hp → Prop) → Prop} {p pos : Pos} (hc : X.calm = true) (hg : Gl X "list") (hm : X.mg "list" = none) (he : PRg X e te) (mo : MoR te) (na : starEach [e] X.env = (false, eval e X.env) :: starEach [] X.env := by rfl) : PE X (.Call (.Name "list" p) [e] [] pos) (tLstRgN te) :=
  PE.weak (pe_listRg hc hg hm he na) fun σ H Q q => mo σ H _ _ (fun a b H1 h => ⟨h.1, fun q hq => h.2.go hq⟩) q
def MoE (te : TE) : Prop := ∀ σ H Q Q', (∀ v H1, Q v H1 → Q' v H1) → te σ H Q → te σ H Q'
theorem mo_var {i : Nat} : MoE (tVar i) := fun _ _ _ _ h ⟨v, e, q⟩ => ⟨v, e, h _ _ q⟩
theorem mo_rg1 {te : TE} (h : MoE te) : MoR (tRg1 te) := fun σ H F F' k q => h σ H _ _ (fun v H1 ⟨n, e, z⟩ => ⟨n, e, k _ _ _ z⟩) q
theorem mo_op {te tb : TE} {r : R2} (h : MoE te) (hb : MoE tb) (hr : ∀ x y H Q Q', (∀ v H1, Q v H1 → Q' v H1) → r x y H Q → r x y H Q') : MoE (tOp r te tb) := fun σ H Q Q' k q => h σ H _ _ (fun v H1 z => hb σ H1 _ _ (fun u H2 z => hr _ _ _ _ _ k z) z) q
theorem mo_fld {K : PySem.W.Frag} {te : TE} {f : Str} (h : MoE te) : MoE (tFld K te f) := fun σ H Q Q' k q => h σ H _ _ (fun v H1 ⟨a, C, dx, fs, v', e1, e2, e3, e4, e5, z⟩ => ⟨a, C, dx, fs, v', e1, e2, e3, e4, e5, k _ _ z⟩) q
section
variable {K : PySem.W.Frag} {σ : L2.St} {H : Hp} {Q : VK}
theorem w_lstRg {te : L2.St → Hp → (Int → Int → Hp → Prop) → Prop} (q : te σ H fun a b H1 => RgOk a b ∧ New H1 (.lst (rgV a b)) fun q H2 => Q (.ref q) H2) : tLstRgN te σ H Q := q
theorem w_rg1 {te : TE} {F : Int → Int → Hp → Prop} (q : te σ H fun x H1 => ∃ n, x = .int n ∧ F 0 n H1) : tRg1 te σ H F := q
end
end GA
/-! ## GF -/
namespace GA
open PySem PySem.Spec PyProof.Rows L2
def ltW (u v : Int × Int) : Prop := u.1 < v.1 ∨ (u.1 = v.1 ∧ u.2 < v.2)
def in64 (u : Int × Int) : Prop := (0 ≤ u.1 ∧ u.1 < 64) ∧ (0 ≤ u.2 ∧ u.2 < 64)
section
variable {K : PySem.W.Frag} {H : Hp}
theorem ks_of : ∀ {xs : List V} {us : List (Int × Int)}, DpAll K H xs (us.map dP) → ∃ ks : List (Addr × List Int), xs = (ks.map fun p => V.ref p.1) ∧ (∀ p ∈ ks, SqT K H p.1 (p.2.map V.int)) ∧ ks.map (·.2) = us.map fun u => [u.1, u.2]
  | _, [], .nil => ⟨[], rfl, (fun _ h => nomatch h), rfl⟩
  | _, u :: us, .cons h t => by
    obtain ⟨ks, rfl, h1, h2⟩ := ks_of t
    obtain ⟨a, rfl, ha⟩ := dp_dP h
    refine ⟨(a, [u.1, u.2]) :: ks, rfl, fun p hp => ?_, by rw [List.map_cons, h2]; rfl⟩
    rcases List.mem_cons.mp hp with e | hp
    · rw [e]; exact ha
    · exact h1 p hp
end
theorem dp_ks {K : PySem.W.Frag} {H : Hp} : ∀ (M : List (Addr × List Int)) (ws : List (Int × Int)), (∀ q ∈ M, SqT K H q.1 (q.2.map V.int)) → M.map (·.2) = (ws.map fun u => [u.1, u.2]) → DpAll K H (M.map fun q => V.ref q.1) (ws.map dP)
  | [], [], _, _ => .nil
  | [], _ :: _, _, e => by simp at e
  | _ :: _, [], _, e => by simp at e
  | q :: M, w :: ws, h, e => by
    rw [List.map_cons, List.map_cons] at e
    injection e with e1 e2
    refine .cons ?_ (dp_ks M ws (fun p hp => h p (List.mem_cons_of_mem _ hp)) e2)
    have z := h q List.mem_cons_self
    rw [e1] at z
    exact dp_ofP z
section
variable {X : Cx}
/-- set(l), l a list of pairs of ints -/
def rSetPN (K : PySem.W.Frag) (P : Program) (w : World) : List V → Hp → VK → Prop := fun vs H Q => ∃ (l : Addr) (xs : List V) (us : List (Int × Int)), vs = [V.ref l] ∧ SqL K H l xs ∧ DpAll K H xs (us.map dP) ∧ us.length < 64 ∧
  ∀ a L H2, H a = none → (∀ o, G o H H2) → H2 a = some (SetTO P w a L) → (∀ p ∈ L, SqT K H2 p.1 (p.2.map V.int)) → (∀ ns, ns ∈ L.map (·.2) ↔ ∃ u ∈ us, ns = [u.1, u.2]) → Q (.ref a) H2
theorem cr_setPN (hc : X.calm = true) (hu : X.A.units + 64 < cLine) : CallR X (.type "set") (rSetPN X.K X.prog X.w) := CallR.weak (cr_setOfT hc hu) fun vs H Q h => by
  obtain ⟨l, xs, us, e, hl, hd, hz, q⟩ := h
  obtain ⟨ks, rfl, h1, h2⟩ := ks_of hd
  have hz' : ks.length = us.length := by
    have := congrArg List.length h2
    simpa using this
  refine ⟨l, ks, e, hl, h1, by omega, fun a L ha s1 s2 => ?_⟩
  refine q a L _ ha (fun _ => G.alloc ha) upd_same (fun p hp => sqT_t ((G.alloc (o := none) ha).tups) (h1 p (s1 p hp))) fun ns => ?_
  have mem : ∀ ns, ns ∈ ks.map (·.2) ↔ ∃ u ∈ us, ns = [u.1, u.2] := fun ns => by
    rw [h2, List.mem_map]
    exact ⟨fun ⟨u, a, b⟩ => ⟨u, a, b.symm⟩, fun ⟨u, a, b⟩ => ⟨u, a, b.symm⟩⟩
  rw [← mem]
  constructor
  · intro h
    obtain ⟨p, hp, rfl⟩ := List.mem_map.mp h
    exact List.mem_map.mpr ⟨p, s1 p hp, rfl⟩
  · intro h
    obtain ⟨p, hp, rfl⟩ := List.mem_map.mp h
    exact s2 p hp
theorem code_lt {u v : Int × Int} (hu : in64 u) (hv : in64 v) (h : TS.code 64 [u.1, u.2] ≤ TS.code 64 [v.1, v.2]) : ltW u v ∨ u = v := by
  unfold in64 at hu hv
  rw [code_pair, code_pair] at h
  unfold ltW
  by_cases e : u.1 = v.1
  · by_cases e2 : u.2 = v.2
    · exact .inr (Prod.ext e e2)
    · exact .inl (.inr ⟨e, by omega⟩)
  · exact .inl (.inl (by omega))
/-- sorted(s), s a set of pairs of small ints -/
def rSortSN (K : PySem.W.Frag) (P : Program) (w : World) : List V → Hp → VK → Prop := fun vs H Q => ∃ (a : Addr) (L : List (Addr × List Int)) (us : List (Int × Int)), vs = [V.ref a] ∧ H a = some (SetTO P w a L) ∧ (∀ p ∈ L, SqT K H p.1 (p.2.map V.int)) ∧ (∀ ns, ns ∈ L.map (·.2) ↔ ∃ u ∈ us, ns = [u.1, u.2]) ∧ (∀ u ∈ us, in64 u) ∧
  ∀ ws : List (Int × Int), ws.Pairwise ltW → (∀ u, u ∈ ws ↔ u ∈ us) → ws.length < 64 → ∀ p H2 ys, H p = none → (∀ o, G o H H2) → H2 p = some (.lst ys) → DpAll K H2 ys (ws.map dP) → Q (.ref p) H2
theorem cr_sortSN (hc : X.calm = true) : CallR X (.builtin "sorted") (rSortSN X.K X.prog X.w) := CallR.weak (cr_sortedT hc) fun vs H Q h => by
  obtain ⟨a, L, us, e, ha, hk, hm, hb, q⟩ := h
  have get : ∀ p ∈ L, ∃ u ∈ us, p.2 = [u.1, u.2] := fun p hp => (hm p.2).mp (List.mem_map.mpr ⟨p, hp, rfl⟩)
  refine ⟨a, L, 2, 64, e, ha, hk, by decide, fun p hp => ?_, fun L' p pm nd few pw hp => ?_⟩
  · obtain ⟨u, hu, e⟩ := get p hp
    have b := hb u hu
    unfold in64 at b
    rw [e]
    refine ⟨rfl, ?_⟩
    intro n hn
    rcases List.mem_cons.mp hn with e | hn
    · subst e; exact ⟨b.1.1, b.1.2⟩
    · have : n = u.2 := by simpa using hn
      subst this; exact ⟨b.2.1, b.2.2⟩
  · have get' : ∀ p ∈ L', ∃ u ∈ us, p.2 = [u.1, u.2] := fun p hp => get p (pm.mem_iff.mp hp)
    -- the pairs in their order
    have ws_of : ∀ M : List (Addr × List Int), (∀ p ∈ M, p ∈ L') → ∃ ws : List (Int × Int), M.map (·.2) = (ws.map fun u => [u.1, u.2]) ∧ (∀ u ∈ ws, u ∈ us) := by
      intro M
      induction M with
      | nil => exact fun _ => ⟨[], rfl, (fun _ h => nomatch h)⟩
      | cons p M ih =>
        intro hM
        obtain ⟨ws, h1, h2⟩ := ih fun p hp => hM p (List.mem_cons_of_mem _ hp)
        obtain ⟨u, hu, e⟩ := get' p (hM p List.mem_cons_self)
        refine ⟨u :: ws, by rw [List.map_cons, List.map_cons, h1, e], fun v hv => ?_⟩
        rcases List.mem_cons.mp hv with z | z
        · rw [z]; exact hu
        · exact h2 v z
    obtain ⟨ws, e1, e2⟩ := ws_of L' fun _ h => h
    have len : L'.length = ws.length := by
      have := congrArg List.length e1
      simpa using this
    have inj : ∀ u v : Int × Int, ([u.1, u.2] : List Int) = [v.1, v.2] → u = v := fun u v h => by
      injection h with h1 h2
      injection h2 with h2 _
      exact Prod.ext h1 h2
    have pw2 : (L'.map (·.2)).Pairwise (fun x y => TS.code 64 x ≤ TS.code 64 y) := List.pairwise_map.mpr pw
    rw [e1] at pw2 nd
    have asc : ws.Pairwise ltW := by
      rw [List.pairwise_map] at pw2
      have nd' : ws.Nodup := (List.pairwise_map.mp nd).imp fun h e => h (by rw [e])
      exact (List.pairwise_iff_getElem.mpr fun i j hi hj hij => by
        have h1 := List.pairwise_iff_getElem.mp pw2 i j hi hj hij
        have h2 := List.pairwise_iff_getElem.mp nd' i j hi hj hij
        rcases code_lt (hb _ (e2 _ (List.getElem_mem hi))) (hb _ (e2 _ (List.getElem_mem hj))) h1 with z | z
        · exact z
        · exact absurd z h2)
    refine q ws asc (fun u => ⟨e2 u, fun hu => ?_⟩) (by omega) p _ _ hp (fun _ => G.alloc hp) upd_same ?_
    · have h1 : ([u.1, u.2] : List Int) ∈ L.map (·.2) := (hm _).mpr ⟨u, hu, rfl⟩
      have h2 : ([u.1, u.2] : List Int) ∈ L'.map (·.2) := (pm.map (·.2)).mem_iff.mpr h1
      rw [e1, List.mem_map] at h2
      obtain ⟨v, hv, e⟩ := h2
      rw [← inj _ _ e]; exact hv
    · have t : Ts H (upd H p (.lst (L'.map fun q => V.ref q.1))) := (G.alloc (o := none) hp).tups
      have hk' : ∀ q ∈ L', SqT X.K _ q.1 (q.2.map V.int) := fun q hq => sqT_t t (hk q (pm.mem_iff.mp hq))
      exact dp_ks L' ws hk' e1
/-- sorted(l), l a list of pairs of small ints -/
def rSortPN (K : PySem.W.Frag) : List V → Hp → VK → Prop := fun vs H Q => ∃ (a : Addr) (xs : List V) (us : List (Int × Int)), vs = [V.ref a] ∧ SqL K H a xs ∧ DpAll K H xs (us.map dP) ∧ us.length < 64 ∧ (∀ u ∈ us, in64 u) ∧
  ∀ us' : List (Int × Int), us'.Perm us → us'.Pairwise (fun u v => ltW u v ∨ u = v) → ∀ p H2 ys, H p = none → (∀ o, G o H H2) → H2 p = some (.lst ys) → DpAll K H2 ys (us'.map dP) → Q (.ref p) H2
theorem cr_sortPN : CallR X (.builtin "sorted") (rSortPN X.K) := by
  classical
  intro pins s σ H vs us0 Q I r h
  obtain ⟨a, xs, us, rfl, hs, hd, hz, hb, q⟩ := h
  have uniq : ∀ {v : V} {u u' : Int × Int}, Dp X.K H v (dP u) → Dp X.K H v (dP u') → u = u' := fun {v u u'} h h' => by
    obtain ⟨a, rfl, ha⟩ := dp_dP h
    obtain ⟨a', e, ha'⟩ := dp_dP h'
    cases e
    have z := I.tuple_inj ha ha'
    injection z with z1 z2
    injection z2 with z2 _
    exact Prod.ext (V.int.inj z1) (V.int.inj z2)
  let f : V → Int × Int := fun v => if h : ∃ u, Dp X.K H v (dP u) then h.choose else (0, 0)
  have fv : ∀ {v : V} {u : Int × Int}, Dp X.K H v (dP u) → f v = u := fun {v u} h => by
    have hx : ∃ u, Dp X.K H v (dP u) := ⟨u, h⟩
    have : f v = hx.choose := dif_pos hx
    rw [this]
    exact uniq hx.choose_spec h
  have all : ∀ {ys : List V} {ws : List (Int × Int)}, DpAll X.K H ys (ws.map dP) → ws = ys.map f := by
    intro ys ws h
    induction ws generalizing ys with
    | nil => cases h; rfl
    | cons w ws ih =>
      cases h with
      | cons h t => rw [List.map_cons, fv h, ← ih t]
  have e0 := all hd
  have at_ : ∀ y ∈ xs, ∃ u ∈ us, Dp X.K H y (dP u) := fun y hy => by
    obtain ⟨i, hi⟩ := List.getElem?_of_mem hy
    obtain ⟨d, hd1, hd2⟩ := DpAll.get hd hi
    rw [List.getElem?_map] at hd1
    obtain ⟨u, hu, rfl⟩ := Option.map_eq_some_iff.mp hd1
    exact ⟨u, List.mem_of_getElem? hu, hd2⟩
  refine cr_sortT (d := 2) (B := 64) (by decide) pins s σ H _ us0 Q I r ⟨a, xs, rfl, hs, by rw [DpAll.length hd, List.length_map]; exact hz, fun x hx => ?_, fun ys p pm pw hp => ?_⟩
  · obtain ⟨u, hu, hx⟩ := at_ x hx
    obtain ⟨t, rfl, ht⟩ := dp_dP hx
    have b := hb u hu
    unfold in64 at b
    refine ⟨[u.1, u.2], ⟨t, rfl, ht⟩, rfl, ?_⟩
    intro n hn
    rcases List.mem_cons.mp hn with e | hn
    · subst e; exact ⟨b.1.1, b.1.2⟩
    · have : n = u.2 := by simpa using hn
      subst this; exact ⟨b.2.1, b.2.2⟩
  · have aty : ∀ y ∈ ys, ∃ u ∈ us, Dp X.K H y (dP u) := fun y hy => at_ y (pm.mem_iff.mp hy)
    have t : Ts H (upd H p (.lst ys)) := (G.alloc (o := none) hp).tups
    refine q (ys.map f) (by rw [e0]; exact pm.map f) ?_ p _ ys hp (fun _ => G.alloc hp) upd_same ?_
    · rw [List.pairwise_map]
      refine pw.imp_of_mem fun {y z} hy hz2 h => ?_
      obtain ⟨u, hu, h1⟩ := aty y hy
      obtain ⟨v, hv, h2⟩ := aty z hz2
      rw [fv h1, fv h2]
      obtain ⟨t1, rfl, k1⟩ := dp_dP h1
      obtain ⟨t2, rfl, k2⟩ := dp_dP h2
      exact code_lt (hb u hu) (hb v hv) (h _ _ ⟨t1, rfl, k1⟩ ⟨t2, rfl, k2⟩)
    · refine dpAll_t t _ _ (nls_pairs _) ?_
      clear pm pw hp t
      induction ys with
      | nil => exact .nil
      | cons y ys ih =>
        obtain ⟨u, hu, h1⟩ := aty y List.mem_cons_self
        refine .cons ?_ (ih fun y hy => aty y (List.mem_cons_of_mem _ hy))
        rw [fv h1]; exact h1
/-- t + u, tuples -/
def rCatN (K : PySem.W.Frag) : R2 := fun x y H Q => ∃ a b xs ys, x = .ref a ∧ y = .ref b ∧ SqT K H a xs ∧ SqT K H b ys ∧ xs.length + ys.length ≤ 100000 ∧ ∀ p H2, (∀ o, G o H H2) → SqT K H2 p (xs ++ ys) → Q (.ref p) H2
theorem op_catN : OpR X (binaryOp .Add) (rCatN X.K) := OpR.weak op_catA fun x y H Q h => by
  obtain ⟨a, b, xs, ys, e1, e2, h1, h2, hz, q⟩ := h
  refine ⟨a, b, xs, ys, e1, e2, h1, h2, sz hz, fun e => ?_, fun _ e => ?_, fun _ _ p hp => ?_⟩
  · subst e; exact q b H (fun _ => G.refl) h2
  · subst e; exact q a H (fun _ => G.refl) (by rw [List.append_nil]; exact h1)
  · exact q p _ (fun _ => G.alloc hp) (SqT.of upd_same)
end
end GA
/-! ## GG -/
namespace PySem.W
open PySem PySem.Spec PySem.Calls PyProof.Rows
open Builtin
section
variable {prog : Program} {w : World} {A : Around} {E : Value → Shared → Prop} {K : Frag} {x C L f : Addr} {h₀ hh : Heap} {g : Array GenState} {d : Drawn} {t : Nat} {os : OsState} {m : Str → Option Value} {ox : Obj} {od : Option Obj} {b tb : Value}
theorem ga_ifBound_ne {M : Model} {args : List Value} {Q : Option Value → Shared → Prop} (X : K.In hh) (I : InstAt hh x ox C od) (hs : findIn K (.ref C) "__ne__" = some (some (.builtin "object.__ne__")))
    (h : wpAny M A (call (.builtin "object.__ne__") (.ref x :: args)) (fun v => Q (some v)) E ⟨hh, g, d, t, os⟩) : wpAny M A (callSpecialIfBound? (.ref x) "__ne__" args) Q E ⟨hh, g, d, t, os⟩ := by
  simp only [callSpecialIfBound?, bindSpecialIfBound?]
  refine wpAny_holding (wpAny_bind (wpAny_bind (wpAny_bind (I.type.here ((looks_findIn X hs).here ?_)))))
  simp only [F.cmp_object.ne.bind]
  refine wpAny_bind (wpAny_askSetting (wpAny_ite ?_))
  have fin : wpAny M A (call (.builtin "object.__ne__") ([.ref x] ++ args) >>= fun v => pure (some v)) Q E ⟨hh, g, d, t, os⟩ :=
    wpAny_bind (wpAny_mono h (fun v s' h' => wpAny_pure h') fun _ _ h' => h')
  split
  · first
      | exact wpAny_bind (wpAny_pure (wpAny_pure fin))
      | exact wpAny_pure (wpAny_pure fin)
      | exact wpAny_pure fin
      | exact wpAny_bind (wpAny_pure fin)
  · first
      | exact wpAny_tryCatch (wpAny_bind (wpAny_pure (wpAny_pure fin)))
      | exact wpAny_tryCatch (wpAny_pure (wpAny_pure fin))
      | exact wpAny_tryCatch (wpAny_pure fin)
      | exact wpAny_tryCatch (wpAny_bind (wpAny_pure fin))
theorem ga_check_ne {M : Model} {rest : List Value} {Q : Unit → Shared → Prop} (X : K.In hh) (I : InstAt hh x ox C od) (hm : mroIn K C (.type "object") = some true) (ha : argsOk "object.__ne__" ⟨.ref x :: rest, []⟩) (hq : Q () ⟨hh, g, d, t, os⟩) :
    wpAny M A (checkBuiltinCall "object.__ne__" ⟨.ref x :: rest, []⟩) Q E ⟨hh, g, d, t, os⟩ := by
  simp only [checkBuiltinCall, F.cmpKind_ne, F.cmpSplit_ne]
  refine wpAny_bind ?_
  unfold isInstance
  refine wpAny_bind (I.type.here ((looks_mroIn X hm).here ?_))
  simp only [Bool.not_true, Bool.false_eq_true, if_false]
  cases hsig : Manifest.signature? "object.__ne__" with
  | none => exact wpAny_pure hq
  | some sig =>
    simp only [argsOk, hsig] at ha
    have h2 : Bind.checkArgs "object.__ne__" sig ⟨.ref x :: rest, []⟩ = pure () := ha
    show wpAny M A (Bind.checkArgs "object.__ne__" sig ⟨.ref x :: rest, []⟩) Q E _
    rw [h2]; exact wpAny_pure hq
theorem ga_ne_body (X : K.In hh) (I : InstAt hh x ox C od) (hs : findIn K (.ref C) "__eq__" = some (some (.ref f))) (hf : isFn K (.ref f) = true) (hu : A.units < cLine) {Q : Fin → Shared → Prop}
    (h : wpAny (model prog w) A (call (.ref f) [.ref x, b]) (fun v s' => ∃ r, v = .bool r ∧ Q (.done (.ret (.bool (!r)))) s') E ⟨hh, g, d, t, os⟩) :
    wpAny (model prog w) A (Builtin.«object.__ne__» ⟨[.ref x, b], []⟩) Q E ⟨hh, g, d, t, os⟩ := by
  unfold Builtin.«object.__ne__»
  repeat (first
    | with_reducible refine wpAny_cRoomFor hu ?_
    | (refine wpAny_bind (m := callSpecialIfBound? (.ref x) (Str.ofString "__eq__") [b])
        (ifBound_K X I hs hf (wpAny_mono h (fun r s' hr => by
          obtain ⟨q, rfl, hq⟩ := hr
          repeat (first | exact hq | exact wpAny_pure hq | exact wpAny_truthy_bool hq | (refine wpAny_bind (m := truthy (.bool _)) (wpAny_truthy_bool ?_)) | wp_step)) fun _ _ e => e)))
    | wp_step)
theorem ga_ne_K {Q : Value → Shared → Prop} (hu : A.units + 1 < cLine) (F : Fr h₀ L hh m) (X₀ : K.In h₀) (I : InstAt hh x ox C od) (hb : Looks (model prog w) hh (typeOf b) tb) (hn : notFirst K C tb = true)
    (hs : findIn K (.ref C) "__eq__" = some (some (.ref f))) (hf : isFn K (.ref f) = true) (hne : findIn K (.ref C) "__ne__" = some (some (.builtin "object.__ne__"))) (hm : mroIn K C (.type "object") = some true)
    (h : wpAny (model prog w) A.in1 (call (.ref f) [.ref x, b]) (fun v s' => ∃ r, v = .bool r ∧ Q (.bool (!r)) s') E ⟨hh, g, d, t, os⟩) : wpAny (model prog w) A (richCompare .NotEq (.ref x) b) Q E ⟨hh, g, d, t, os⟩ := by
  have X := X₀.keeps F.keep
  have one : wpAny (model prog w) A (tryCompare (.ref x) (cmpInfo .NotEq).2.1 b) (fun r s' => ∃ v, r = some v ∧ Q v s') E ⟨hh, g, d, t, os⟩ := by
    rw [cmpInfo_NotEq]
    unfold tryCompare
    refine wpAny_bind (ga_ifBound_ne X I hne (wpAny_call (codeAny_call_builtin PySem.F.cmp_object.ne.plain PySem.F.cmpEntry_ne
      (ga_check_ne X I hm (PySem.F.cmpArgs_ne _ _) (ga_ne_body (A := A.in1) X I hs hf hu (wpAny_mono h (fun v s' hv => ?_) fun _ _ e => e))))))
    obtain ⟨r, rfl, hq⟩ := hv
    first | exact ⟨r, rfl, wpAny_pure ⟨_, rfl, hq⟩⟩ | exact ⟨r, rfl, wpAny_pure (wpAny_pure ⟨_, rfl, hq⟩)⟩
  unfold richCompare
  simp only [oneThing_ref]
  refine wpAny_holding (wpAny_bind (wpAny_cRoomFor (Nat.lt_of_succ_lt hu) ?_))
  refine wpAny_bind (I.type.here (wpAny_bind (hb.here ?_)))
  split
  · rename_i q
    have e : subIn K tb (.ref C) = some false := by
      rcases Bool.or_eq_true_iff.mp hn with e | e
      · rw [beq_iff_eq.mp e] at q; simp at q
      · exact beq_iff_eq.mp e
    refine wpAny_bind ((looks_subIn X e).here ?_)
    simp only [Bool.false_eq_true, if_false]
    refine wpAny_bind (wpAny_mono one (fun r s' z => ?_) fun _ _ e => e)
    obtain ⟨v, rfl, hq⟩ := z
    exact wpAny_pure hq
  · refine wpAny_bind (wpAny_pure ?_)
    simp only [Bool.false_eq_true, if_false]
    refine wpAny_bind (wpAny_mono one (fun r s' z => ?_) fun _ _ e => e)
    obtain ⟨v, rfl, hq⟩ := z
    exact wpAny_pure hq
end
end PySem.W
namespace GA
open PySem PySem.Spec PyProof.Rows L2
section
variable {X : Cx} {n : Nat}
/-- x != y of two instances whose own == says True -/
def rNeG (D : Eqv) : R2 := fun x y H Q => D x y H ∧ ∀ H', Ext H H' → Q (.bl false) H'
theorem op_neG {CX : CXT} {C f : Addr} {fd : FuncData} {ps : List Str} {R : Addr → Addr → Hp → Prop} {E : XK} (F : FnOk X.prog X.w X.K X.mg X.base CX n f fd ps (spEq R))
    (hs : PySem.W.findIn X.K (.ref C) "__eq__" = some (some (.ref f))) (hf : PySem.W.isFn X.K (.ref f) = true) (hb : Binds X.K fd ps []) (hx : Passes CX X E)
    (hne : PySem.W.findIn X.K (.ref C) "__ne__" = some (some (.builtin "object.__ne__"))) (hm : PySem.W.mroIn X.K C (.type "object") = some true) (rm : Room (n + 1) X.A) : OpR X (compareOp .NotEq) (rNeG (DIns C R)) := by
  intro pins s σ H x y u v Q I rx ry hq
  obtain ⟨⟨a, b, dx, dy, fs, gs, rfl, rfl, ha, hb', hr⟩, q⟩ := hq
  cases rx
  cases ry
  obtain ⟨mA, J, _⟩ := ins_get I.hok ha
  obtain ⟨mB, J', _⟩ := ins_get I.hok hb'
  obtain ⟨od, J, _⟩ := J.look
  obtain ⟨od', J', _⟩ := J'.look
  obtain ⟨m, hF⟩ := I.fr
  have rm1 : Room n X.A.in1 := rm.in1
  show wpAny (model X.prog X.w) X.A (richCompare .NotEq (.ref a) (.ref b)) (EP X pins σ Q) X.xe s
  refine PySem.W.ga_ne_K (tb := .ref C) rm1.units0 hF I.ok.mod.kin J J'.type (by simp [PySem.W.notFirst]) hs hf hne hm ?_
  have hsp : spEq R [.ref a, .ref b] H (fun v H' => v = .bl true ∧ Ext H H') E := ⟨a, b, rfl, hr, fun H' e => ⟨rfl, e⟩⟩
  have e0 : Env0 X.prog X.w X.K X.mg X.base X.A.in1 X.stack s H := ⟨I.env0.frames, I.env0.mod, I.env0.bs, I.env0.bsz, I.env0.funs, I.env0.frf, I.env0.hok, I.env0.bare⟩
  have hl := F.len _ _ _ _ hsp
  have r2 : Vals [V.ref a, V.ref b] [Value.ref a, Value.ref b] := .cons rfl (.cons rfl .nil)
  refine wpAny_call (codeAny_mono (F.run X.A.in1 X.stack s H ⟨[.ref a, .ref b], []⟩ [.ref a, .ref b] [.ref a, .ref b] _ E rm1 e0 (by
    have := hb s [.ref a, .ref b] I.kIn (by simpa using hl)
    simpa using this) r2 hsp) fun r s' hq => ?_)
  cases r with
  | error e => exact hx pins σ H s e s' I hq
  | ok fl =>
    cases fl with
    | ret w =>
      obtain ⟨z, H', I', rz, ez, ex⟩ := I.after hq
      subst ez
      cases rz
      exact ⟨true, rfl, .bl false, H', I', rfl, q H' ex⟩
    | next => exact False.elim hq
    | brk => exact False.elim hq
    | cont => exact False.elim hq
end
end GA
/-! ## GH -/
namespace L2
open PySem PySem.Spec PyProof.Rows
/-- the set as it is laid, and the heap with it -/
abbrev eset (w : World) : Obj := { cls := .type "set", dict := none, data := .set #[] 0 (.fresh 0 0 (!w.params.followText "set-order")) }
abbrev eheap (w : World) (h : Heap) : Heap := h.push (eset w)
section
variable {P : Program} {w : World} {A : Around} {E : Value → Shared → Prop} {s : Shared}
theorem gone_above {h : Heap} {b : Addr} (hb : h.objs.size ≤ b) : h.get? b = none := by
  cases q : h.get? b with
  | none => rfl
  | some o => exact absurd (Heap.lt_size q) (Nat.not_lt.mpr hb)
/-- set(t), t a tuple whose items are tuples of ints -/
theorem ga_set_of_tuple {l : Addr} {its : Array Value} (ks : List (Addr × List Int)) {Q : Value → Shared → Prop} (quiet : A.handled = none) (hl : s.heap.IsTuple l its) (hit : its.toList = ks.map fun p => Value.ref p.1)
    (hk : ∀ p ∈ ks, IsT P w s.heap p.2 p.1) (few : ks.length < 64) (un : A.units + 3 < cLine)
    (q : ∀ (h' : Heap) (tk : Nat) L es ep t, SetTR P w h' s.heap.objs.size L es ep t → Got ks ks.length L → (∀ b o, s.heap.get? b = some o → h'.get? b = some o) → Q (.ref s.heap.objs.size) { s with heap := h', toks := tk }) :
    wpAny (model P w) A (call (.type "set") [.ref l]) Q E s := by
  have isz : its.size = ks.length := by simpa using congrArg List.length hit
  have C := F.called_set
  obtain ⟨c, tl, m1⟩ := C.mro
  have m2 := C.made
  have m3 := C.sub
  have m4 := C.notType
  have m5 := C.canCreate
  have m6 := F.typeCall_set_1 (.ref l)
  refine wpAny_call (codeAny_of_tree (?_ : wpAny _ _ (callAny (.type "set") _) _ _ _))
  refine wpAny_pure ⟨Code.quiet_builtin _ (by decide +kernel), codeAny_builtin F.entry_type_call ?_⟩
  rw [Around.under_plain (weight_type_call_type "set" [.ref l] []) rfl]
  repeat (any_goals (first | assumption | wp_step))
  refine codeAny_mono (code_set_led1 (.ref l) (E := E) (Q₁ := fun ob s1 => ob = .ref s.heap.objs.size ∧ s1 = { s with heap := eheap w s.heap }) ⟨rfl, rfl⟩) fun r s1 hr => ?_
  match r, hr with
  | .error e, hr => exact hr
  | .ok .next, hr => exact hr.elim
  | .ok .brk, hr => exact hr.elim
  | .ok .cont, hr => exact hr.elim
  | .ok (.ret ob), hr =>
    obtain ⟨e1, e2⟩ := hr
    subst e1 e2
    have at0 : (eheap w s.heap).get? s.heap.objs.size = some (eset w) := Heap.get?_push_size _ rfl
    have ty0 : Shared.TypeIs { s with heap := eheap w s.heap } (.ref s.heap.objs.size) "set" := ⟨_, at0, rfl⟩
    have m7 := C.init.lookup
    have m8 := C.init.bind (.ref s.heap.objs.size)
    repeat (any_goals (first | assumption | wp_step))
    refine codeAny_mono (codeAny_call_builtin (R := wants (fun r s2 => r = .none ∧ ∃ h' tk L es ep t, s2 = { s with heap := h', toks := tk } ∧ SetTR P w h' s.heap.objs.size L es ep t ∧ Got ks ks.length L ∧
      (∀ b o, s.heap.get? b = some o → h'.get? b = some o)) E) C.init.plain F.entry_set_init (check_set_init_1 ty0 ?_)) fun r2 s2 hr2 => ?_
    · have hl1 : (eheap w s.heap).IsTuple l its := hl.push _
      obtain ⟨⟨oc, od, odt, osl⟩, ho, e1, nl, e2⟩ := id hl1
      simp only at e1 e2
      subst e1 e2
      have lS : l < s.heap.objs.size := by
        obtain ⟨o, h, _⟩ := hl
        exact Heap.lt_size h
      have n1 := F.sub_tuple_set
      have n2 := F.sub_tuple_frozenset
      have n3 : (Value.type "tuple" == Value.type "dict") = false := by decide
      have z1 : (eheap w s.heap).objs.size = s.heap.objs.size + 1 := Heap.size_push ..
      have nI : l ≠ (eheap w s.heap).objs.size := by
        rw [z1]; exact Nat.ne_of_lt (Nat.lt_succ_of_lt lS)
      unfold Builtin.«set.__init__» noKeywords Builtin.Frozenset.updateFrom
      generalize hpi : pyIter = PI
      wp_walk
      subst hpi
      refine wpAny_pyIter_tuple hl1 (wpAny_bind (wpAny_runValue ?_))
      have val : ∀ (i : Nat) (v : Value), its[i]? = some v → ∃ p, ks[i]? = some p ∧ v = .ref p.1 := fun i v hv => by
        have z : (ks.map fun p => Value.ref p.1)[i]? = some v := by rw [← hit, Array.getElem?_toList]; exact hv
        rw [List.getElem?_map] at z
        obtain ⟨p, hp, e⟩ := Option.map_eq_some_iff.mp z
        exact ⟨p, hp, e.symm⟩
      refine set_update_tups ((Walks.tuple (by simp [quiet]) _ l nI its).toS) s.heap.objs.size ?f1 ks isz few val s.heap hk (gone_above (Nat.le_refl _)) ?f2 (by simp; omega) (its.size - 0) 0 _ (by omega) (Nat.zero_le _)
        ⟨⟨_, Heap.get?_push_size _ rfl, rfl, rfl⟩, hl1.push _⟩ (fun b o e => Heap.get?_push_of_some _ (Heap.get?_push_of_some _ e)) ?f3 ?f4
      case f1 =>
        rw [z1]
        simp only [List.mem_cons, List.not_mem_nil, or_false, not_or]
        exact ⟨Nat.ne_of_lt (Nat.lt_succ_self _), Nat.ne_of_gt lS⟩
      case f2 =>
        intro b hb
        refine gone_above ?_
        rw [List.mem_singleton.mp hb, z1]
        exact Nat.le_succ _
      case f3 => exact ⟨[], #[], 0, _, setTR_fresh (Heap.get?_push_of_some _ at0), Got.zero ks⟩
      case f4 =>
        rintro ⟨h', g2, d', tk', os'⟩ L es ep t mv R got kp
        obtain rfl : g2 = s.gens := mv.gens
        obtain rfl : d' = s.drawn := mv.drawn
        obtain rfl : os' = s.os := mv.os
        rw [isz] at got
        exact wpAny_pure (wpAny_pure ⟨rfl, h', tk', L, es, ep, t, rfl, R, got, kp⟩)
    · match r2, hr2 with
      | .error e, hr2 => exact hr2
      | .ok .next, hr2 => exact hr2.elim
      | .ok .brk, hr2 => exact hr2.elim
      | .ok .cont, hr2 => exact hr2.elim
      | .ok (.ret z), hr2 =>
        obtain ⟨e3, h', tk, L, es, ep, t, e4, R, got, kp⟩ := hr2
        subst e3 e4
        repeat (any_goals (first | assumption | wp_step))
        exact q _ _ _ _ _ _ R got kp
end
end L2
/-! ## GI -/
namespace GA
open PySem PySem.Spec PyProof.Rows L2
/-! ### a list of pairs being filled -/
def Fil (K : PySem.W.Frag) (o : Option (Addr × Addr)) (H0 H : Hp) (D : Addr) (us : List (Int × Int)) : Prop := G o H0 H ∧ ∃ xs, H D = some (.lst xs) ∧ DpAll K H xs (us.map dP)
section
variable {K : PySem.W.Frag} {o : Option (Addr × Addr)} {H0 H H1 H' : Hp} {D : Addr} {us : List (Int × Int)}
theorem back_none (g : G none H0 H1) (h : H1 D = none) : H0 D = none := by
  cases c : H0 D with
  | none => rfl
  | some u => rw [g.all _ _ c] at h; cases h
theorem Fil.nil (g : G o H0 H1) (h0 : H0 D = none) (hh : ∀ p, o = some p → Hand H0 p.1 p.2) : Fil K o H0 (upd H1 D (.lst [])) D [] := ⟨g.mut h0 hh, [], upd_same, .nil⟩
theorem Fil.g (f : Fil K o H0 H D us) (g : G o H H') (off : Off o D) : Fil K o H0 H' D us := by
  obtain ⟨g0, xs, h1, h2⟩ := f
  exact ⟨g0.trans g, xs, g.keep _ _ off h1, dpAll_t g.tups _ _ (nls_pairs us) h2⟩
theorem Fil.app (f : Fil K o H0 H D us) (h0 : H0 D = none) (hh : ∀ p, o = some p → Hand H0 p.1 p.2) {v : V} {u : Int × Int} (hv : Dp K H v (dP u)) (hz : us.length ≤ 90000) :
    ∃ acc, H D = some (.lst acc) ∧ acc.length < sizeLine ∧ Fil K o H0 (upd H D (.lst (acc ++ [v]))) D (us ++ [u]) := by
  obtain ⟨g0, xs, h1, h2⟩ := f
  have t : Ts H (upd H D (.lst (xs ++ [v]))) := Ts.updl h1
  have l2 := DpAll.length h2
  rw [List.length_map] at l2
  refine ⟨xs, h1, Nat.lt_of_le_of_lt (by omega : xs.length ≤ 90000) (by decide), g0.mut h0 hh, _, upd_same, ?_⟩
  rw [List.map_append]
  exact DpAll.app (dpAll_t t _ _ (nls_pairs us) h2) (DpAll.one (dp_t t _ _ (nl_dP u) hv))
end
/-! ### two for -/
section
variable {J J1 : It} {n n1 : Nat} {Gd G1 : Hp → Prop} {Y Y1 : Nat → Hp → V → Hp → Prop} {g g1 : TG} {tt tt1 : TT} {te : TE} {wi1 : TI} {vs vs1 : List Nat} {σ σ2 : L2.St} {H1 H4 : Hp} {D : Addr} {Qd Nx : Hp → Prop}
theorem lc2_it (w : Walk J n Gd Y) (Pv : Nat → Hp → Prop) (h0 : Pv 0 (upd H1 D (.lst []))) (hG : ∀ i H, i ≤ n → Pv i H → Gd H)
    (hs : ∀ i x H H', i < n → Pv i H → Y i H x H' → g x (wipe σ vs) H' fun σ2 H2 => wipe σ2 vs = wipe σ vs ∧ tt σ2 H2 fun b H3 =>
      if b = true then wi1 σ2 H3 fun J1 H4 => ∃ W1 : Nat → Nat → Hp → Prop, (∃ m, W1 0 m H4) ∧ ∀ j k H, W1 j k H →
        (J1.stop j H ∧ Pv (i + 1) H) ∨ (J1.go j H ∧ ∃ Nx1 : Hp → Prop, (∀ H', Nx1 H' → ∃ k', k' < k ∧ W1 (j + 1) k' H') ∧ ∀ x H', J1.yld j H x H' → g1 x (wipe σ2 vs1) H' fun σ3 H5 => wipe σ3 vs1 = wipe σ2 vs1 ∧ tt1 σ3 H5 fun b H6 =>
          if b = true then te σ3 H6 fun y H7 => ∃ acc, H7 D = some (.lst acc) ∧ acc.length < sizeLine ∧ Nx1 (upd H7 D (.lst (acc ++ [y]))) else Nx1 H6)
      else Pv (i + 1) H3) (hd : ∀ H, Pv n H → Qd H) :
    ∃ W : Nat → Nat → Hp → Prop, (∃ m, W 0 m (upd H1 D (.lst []))) ∧ ∀ i m H, W i m H →
      (J.stop i H ∧ Qd H) ∨ (J.go i H ∧ ∃ Nx : Hp → Prop, (∀ H', Nx H' → ∃ m', m' < m ∧ W (i + 1) m' H') ∧ ∀ x H', J.yld i H x H' → g x (wipe σ vs) H' fun σ2 H2 => wipe σ2 vs = wipe σ vs ∧ tt σ2 H2 fun b H3 =>
        if b = true then wi1 σ2 H3 fun J1 H4 => ∃ W1 : Nat → Nat → Hp → Prop, (∃ m, W1 0 m H4) ∧ ∀ j k H, W1 j k H →
          (J1.stop j H ∧ Nx H) ∨ (J1.go j H ∧ ∃ Nx1 : Hp → Prop, (∀ H', Nx1 H' → ∃ k', k' < k ∧ W1 (j + 1) k' H') ∧ ∀ x H', J1.yld j H x H' → g1 x (wipe σ2 vs1) H' fun σ3 H5 => wipe σ3 vs1 = wipe σ2 vs1 ∧ tt1 σ3 H5 fun b H6 =>
            if b = true then te σ3 H6 fun y H7 => ∃ acc, H7 D = some (.lst acc) ∧ acc.length < sizeLine ∧ Nx1 (upd H7 D (.lst (acc ++ [y]))) else Nx1 H6)
        else Nx H3) := by
  refine ⟨fun i m H => m = n - i ∧ i ≤ n ∧ Pv i H, ⟨n, by simp, Nat.zero_le _, h0⟩, ?_⟩
  rintro i m H ⟨rfl, hi, p⟩
  have q := hG i H hi p
  by_cases c : i < n
  · exact .inr ⟨w.goes i H c q, Pv (i + 1), fun H' p' => ⟨n - (i + 1), by omega, rfl, c, p'⟩, fun x H' y => hs i x H H' c p (w.yields i H x H' c q y)⟩
  · obtain rfl : i = n := by omega
    exact .inl ⟨w.stops H q, hd H p⟩
theorem in_it (w : Walk J1 n1 G1 Y1) (P1 : Nat → Hp → Prop) (h0 : P1 0 H4) (hG : ∀ j H, j ≤ n1 → P1 j H → G1 H)
    (hs : ∀ j x H H', j < n1 → P1 j H → Y1 j H x H' → g1 x (wipe σ2 vs1) H' fun σ3 H5 => wipe σ3 vs1 = wipe σ2 vs1 ∧ tt1 σ3 H5 fun b H6 =>
      if b = true then te σ3 H6 fun y H7 => ∃ acc, H7 D = some (.lst acc) ∧ acc.length < sizeLine ∧ P1 (j + 1) (upd H7 D (.lst (acc ++ [y]))) else P1 (j + 1) H6) (hd : ∀ H, P1 n1 H → Nx H) :
    ∃ W1 : Nat → Nat → Hp → Prop, (∃ m, W1 0 m H4) ∧ ∀ j k H, W1 j k H →
      (J1.stop j H ∧ Nx H) ∨ (J1.go j H ∧ ∃ Nx1 : Hp → Prop, (∀ H', Nx1 H' → ∃ k', k' < k ∧ W1 (j + 1) k' H') ∧ ∀ x H', J1.yld j H x H' → g1 x (wipe σ2 vs1) H' fun σ3 H5 => wipe σ3 vs1 = wipe σ2 vs1 ∧ tt1 σ3 H5 fun b H6 =>
        if b = true then te σ3 H6 fun y H7 => ∃ acc, H7 D = some (.lst acc) ∧ acc.length < sizeLine ∧ Nx1 (upd H7 D (.lst (acc ++ [y]))) else Nx1 H6) := by
  refine ⟨fun i m H => m = n1 - i ∧ i ≤ n1 ∧ P1 i H, ⟨n1, by simp, Nat.zero_le _, h0⟩, ?_⟩
  rintro i m H ⟨rfl, hi, p⟩
  have q := hG i H hi p
  by_cases c : i < n1
  · exact .inr ⟨w.goes i H c q, P1 (i + 1), fun H' p' => ⟨n1 - (i + 1), by omega, rfl, c, p'⟩, fun x H' y => hs i x H H' c p (w.yields i H x H' c q y)⟩
  · obtain rfl : i = n1 := by omega
    exact .inl ⟨w.stops H q, hd H p⟩
theorem w_lc2 {wi : TI} {Q : VK} (q : wi σ H1 fun J H1 => ∀ D, H1 D = none → ∃ W : Nat → Nat → Hp → Prop, (∃ m, W 0 m (upd H1 D (.lst []))) ∧ ∀ i m H, W i m H →
  (J.stop i H ∧ Q (.ref D) H) ∨ (J.go i H ∧ ∃ Nx : Hp → Prop, (∀ H', Nx H' → ∃ m', m' < m ∧ W (i + 1) m' H') ∧ ∀ x H', J.yld i H x H' → g x (wipe σ vs) H' fun σ2 H2 => wipe σ2 vs = wipe σ vs ∧ tt σ2 H2 fun b H3 =>
    if b = true then wi1 σ2 H3 fun J1 H4 => ∃ W1 : Nat → Nat → Hp → Prop, (∃ m, W1 0 m H4) ∧ ∀ j k H, W1 j k H →
      (J1.stop j H ∧ Nx H) ∨ (J1.go j H ∧ ∃ Nx1 : Hp → Prop, (∀ H', Nx1 H' → ∃ k', k' < k ∧ W1 (j + 1) k' H') ∧ ∀ x H', J1.yld j H x H' → g1 x (wipe σ2 vs1) H' fun σ3 H5 => wipe σ3 vs1 = wipe σ2 vs1 ∧ tt1 σ3 H5 fun b H6 =>
        if b = true then te σ3 H6 fun y H7 => ∃ acc, H7 D = some (.lst acc) ∧ acc.length < sizeLine ∧ Nx1 (upd H7 D (.lst (acc ++ [y]))) else Nx1 H6)
    else Nx H3)) : tLc2 wi g tt wi1 g1 tt1 te vs vs1 σ H1 Q := q
end
/-! ### a list or a tuple -/
def iSeq (K : PySem.W.Frag) (te : TE) : TI := fun σ H R => te σ H fun x H1 => ∃ a, x = .ref a ∧ (((∃ xs, SqL K H1 a xs) ∧ R (Itl K a) H1) ∨ ((∃ xs, SqT K H1 a xs) ∧ R (Itt K a) H1))
section
variable {X : Cx}
theorem pi_seq {tg l : Expr} {tl : TE} (hl : PE X l tl) : PI X tg l (iSeq X.K tl) := by
  refine ⟨fun pins s σ H R I h => ?_⟩
  refine thn (hl.run pins s σ H _ I h) fun v s1 ⟨x, H1, I1, r1, a, e, q1⟩ => ?_
  subst e
  cases r1
  rcases q1 with ⟨⟨xs, hq⟩, q⟩ | ⟨⟨xs, hq⟩, q⟩
  · obtain ⟨its, rv, p, _⟩ := I1.list hq
    refine wpAny_pyIter_list p.isList ⟨s1.heap.objs.size, [s1.heap.objs.size], _, _, H1, rfl, I1.kept (t' := s1.toks) fun b o e => Heap.get?_push_of_some _ e, turn_list a _, ⟨_, Heap.get?_push_size _ rfl, rfl, rfl⟩, fun b hb => ?_, q⟩
    obtain rfl : b = s1.heap.objs.size := by simpa using hb
    exact I1.fpOk (Nat.le_refl _) (I1.hok.fresh (Nat.le_refl _))
  · obtain ⟨its, rv, p, _⟩ := I1.tuple hq
    refine wpAny_pyIter_tuple p ⟨s1.heap.objs.size, [s1.heap.objs.size], _, _, H1, rfl, I1.kept (t' := s1.toks) fun b o e => Heap.get?_push_of_some _ e, turn_tuple a _, ⟨_, Heap.get?_push_size _ rfl, rfl, rfl⟩, fun b hb => ?_, q⟩
    obtain rfl : b = s1.heap.objs.size := by simpa using hb
    exact I1.fpOk (Nat.le_refl _) (I1.hok.fresh (Nat.le_refl _))
theorem k_pi_seq (K : PySem.W.Frag) {tg l : Expr} {tl : TE} (hl : PE X l tl) (hK : X.K = K := by rfl) : PI X tg l (iSeq K tl) := by subst hK; exact pi_seq hl
theorem w_iseq {K : PySem.W.Frag} {te : TE} {σ : L2.St} {H : Hp} {R : It → Hp → Prop} (q : te σ H fun x H1 => ∃ a, x = .ref a ∧ (((∃ xs, SqL K H1 a xs) ∧ R (Itl K a) H1) ∨ ((∃ xs, SqT K H1 a xs) ∧ R (Itt K a) H1))) : iSeq K te σ H R := q
/-- set(xs), a list or a tuple of pairs of ints -/
def rSetPA (K : PySem.W.Frag) (P : Program) (w : World) : List V → Hp → VK → Prop := fun vs H Q => ∃ (l : Addr) (xs : List V) (us : List (Int × Int)), vs = [V.ref l] ∧ (SqL K H l xs ∨ SqT K H l xs) ∧ DpAll K H xs (us.map dP) ∧ us.length < 64 ∧
  ∀ a L H2, H a = none → (∀ o, G o H H2) → H2 a = some (SetTO P w a L) → (∀ p ∈ L, SqT K H2 p.1 (p.2.map V.int)) → (∀ ns, ns ∈ L.map (·.2) ↔ ∃ u ∈ us, ns = [u.1, u.2]) → Q (.ref a) H2
theorem cr_setPA (hc : X.calm = true) (hu : X.A.units + 64 < cLine) : CallR X (.type "set") (rSetPA X.K X.prog X.w) := by
  intro pins s σ H vs us0 Q I r h
  obtain ⟨l, xs, us, rfl, hl, hd, hz, q⟩ := h
  rcases hl with hl | hl
  · exact cr_setPN hc hu pins s σ H _ us0 Q I r ⟨l, xs, us, rfl, hl, hd, hz, q⟩
  · obtain ⟨ks, rfl, h1, h2⟩ := ks_of hd
    have hz' : ks.length = us.length := by simpa using congrArg List.length h2
    rw [Vals.ref1 r]
    obtain ⟨its, rv, pl, _⟩ := I.tuple hl
    have hn : H s.heap.objs.size = none := I.hok.fresh (Nat.le_refl _)
    refine ga_set_of_tuple (P := X.prog) (w := X.w) ks (I.ok.hd hc) pl (by simpa using refs_of_vals rv) (fun p hp => I.isT (h1 p hp)) (by omega) (by omega) fun h' tk L es ep t R g k => ?_
    refine ⟨.ref s.heap.objs.size, upd H s.heap.objs.size (SetTO X.prog X.w s.heap.objs.size L), I.laid (t' := tk) k (Nat.le_refl _) (setTO_new R.t0), rfl, q _ L _ hn (fun _ => G.alloc hn) upd_same (fun p hp => sqT_t ((G.alloc (o := none) hn).tups) (h1 p (List.mem_of_mem_take (g.sub p hp)))) fun ns => ?_⟩
    have mem : ns ∈ ks.map (·.2) ↔ ∃ u ∈ us, ns = [u.1, u.2] := by
      rw [h2, List.mem_map]
      exact ⟨fun ⟨u, a, b⟩ => ⟨u, a, b.symm⟩, fun ⟨u, a, b⟩ => ⟨u, a, b.symm⟩⟩
    rw [← mem]
    constructor
    · intro h
      obtain ⟨p, hp, rfl⟩ := List.mem_map.mp h
      exact List.mem_map.mpr ⟨p, List.mem_of_mem_take (g.sub p hp), rfl⟩
    · intro h
      obtain ⟨p, hp, rfl⟩ := List.mem_map.mp h
      exact g.all p (by rw [List.take_length]; exact hp)
/-- t.index(z), t a tuple of ints -/
def rIndexTI (K : PySem.W.Frag) : V → List V → Hp → VK → Prop := fun x xs H Q => ∃ (p : Addr) (ns : List Int) (z : Int) (j : Nat), x = .ref p ∧ xs = [.int z] ∧ SqT K H p (ns.map V.int) ∧ ns[j]? = some z ∧ (∀ m, m < j → ns[m]? ≠ some z) ∧ Q (.int (j : Nat)) H
theorem mt_indexTI : MtR X "tuple.index" (rIndexTI X.K) := by
  intro pins s σ H x xs v us Q I rx rs h
  obtain ⟨p, ns, z, j, rfl, rfl, hq, hy, hno, q⟩ := h
  cases rx
  obtain ⟨u, rfl, t, rfl⟩ := vals1 rs
  obtain ⟨its, r, ⟨⟨cls, dd, dt, sl⟩, ho, hc, n, hd⟩, hz⟩ := I.tuple hq
  simp only at hc hd
  subst hc hd
  have hl : its.toArray.size = ns.length := by rw [List.size_toArray, ← r.length, List.length_map]
  have it : ∀ (m : Nat) (hm : m < its.toArray.size), ∃ y t', ns[m]? = some y ∧ its.toArray[m] = Value.int y t' := fun m hm => by
    have hm' : m < ns.length := by rw [← hl]; exact hm
    obtain ⟨w, hw, t', hw'⟩ := r.get (i := m) (x := .int ns[m]) (by simp [hm'])
    refine ⟨ns[m], t', List.getElem?_eq_getElem hm', ?_⟩
    have e := (List.getElem?_eq_some_iff.mp hw).2
    rw [← hw', ← e]
    simp
  have flat : (ns.map V.int).all flatV = true := by rw [List.all_map, List.all_eq_true]; exact fun _ _ => rfl
  have jl : j < its.toArray.size := by rw [hl]; exact (List.getElem?_eq_some_iff.mp hy).1
  refine call_meets PySem.F.slot_tuple_index ⟨_, ho, rfl⟩ PySem.F.entry_tuple_index (PySem.F.args_tuple_index_2 _ _) (TI.tuple_indexAt p its.toArray n dd sl (.int z t) (eqU (.int z)) j jl ?_ ?_)
    ⟨ho, fun w hw => mem_eqAt (x := .int z) ⟨t, rfl⟩ rfl r flat w (by simpa using hw), ⟨.int (j : Nat), H, I.tok _, ⟨_, rfl⟩, q⟩⟩
  · obtain ⟨y, t', h1, h2⟩ := it j jl
    rw [hy] at h1
    cases h1
    rw [h2]
    exact beq_self_eq_true z
  · intro m hm hmj
    obtain ⟨y, t', h1, h2⟩ := it m hm
    rw [h2]
    have ne : y ≠ z := fun e => hno m hmj (by rw [h1, e])
    exact beq_eq_false_iff_ne.mpr ne
theorem k_mt_indexTI (K : PySem.W.Frag) (hK : X.K = K := by rfl) : MtR X "tuple.index" (rIndexTI K) := by subst hK; exact mt_indexTI
/-- xs + ys, lists -/
def rCatLN : R2 := fun x y H Q => ∃ l b xs zs, x = .ref l ∧ y = .ref b ∧ H l = some (.lst xs) ∧ H b = some (.lst zs) ∧ xs.length + zs.length ≤ 100000 ∧ New H (.lst (xs ++ zs)) fun p H2 => Q (.ref p) H2
theorem op_catLN : OpR X (binaryOp .Add) rCatLN := OpR.weak op_cat fun x y H Q h => by
  obtain ⟨l, b, xs, zs, e1, e2, h1, h2, hz, q⟩ := h
  exact ⟨l, b, xs, zs, e1, e2, h1, h2, sz hz, fun p hp => q.go hp⟩
end
end GA
/-! ## KH -/
namespace Mine
open PySem L2 GA
def top (i : Nat) : Stmt := PySem.Challenge.pw_growalong_k02_whole_webs_made_by_words.main.body.getD i (.Pass ⟨0, 0, 0, 0⟩)
abbrev s_BadWeb_init : Stmt := inClass (top 2) 0
abbrev N_BadWeb_init : List Str := ["self", "part"]
abbrev P_BadWeb_init : List Str := ["self", "part"]
theorem sc_BadWeb_init : FnScope N_BadWeb_init P_BadWeb_init (defScope s_BadWeb_init) := ⟨rfl, rfl, rfl, by decide +kernel, rfl, by decide +kernel, by decide +kernel⟩
abbrev s_NoNumber_init : Stmt := inClass (top 3) 0
abbrev N_NoNumber_init : List Str := ["self"]
abbrev P_NoNumber_init : List Str := ["self"]
theorem sc_NoNumber_init : FnScope N_NoNumber_init P_NoNumber_init (defScope s_NoNumber_init) := ⟨rfl, rfl, rfl, by decide +kernel, rfl, by decide +kernel, by decide +kernel⟩
abbrev s_NoPairs_init : Stmt := inClass (top 4) 0
abbrev N_NoPairs_init : List Str := ["self"]
abbrev P_NoPairs_init : List Str := ["self"]
theorem sc_NoPairs_init : FnScope N_NoPairs_init P_NoPairs_init (defScope s_NoPairs_init) := ⟨rfl, rfl, rfl, by decide +kernel, rfl, by decide +kernel, by decide +kernel⟩
abbrev s_NoOrder_init : Stmt := inClass (top 5) 0
abbrev N_NoOrder_init : List Str := ["self"]
abbrev P_NoOrder_init : List Str := ["self"]
theorem sc_NoOrder_init : FnScope N_NoOrder_init P_NoOrder_init (defScope s_NoOrder_init) := ⟨rfl, rfl, rfl, by decide +kernel, rfl, by decide +kernel, by decide +kernel⟩
abbrev s_NoWire_init : Stmt := inClass (top 6) 0
abbrev N_NoWire_init : List Str := ["self"]
abbrev P_NoWire_init : List Str := ["self"]
theorem sc_NoWire_init : FnScope N_NoWire_init P_NoWire_init (defScope s_NoWire_init) := ⟨rfl, rfl, rfl, by decide +kernel, rfl, by decide +kernel, by decide +kernel⟩
abbrev s_is_integer : Stmt := top 8
abbrev N_is_integer : List Str := ["thing"]
abbrev P_is_integer : List Str := ["thing"]
theorem sc_is_integer : FnScope N_is_integer P_is_integer (defScope s_is_integer) := ⟨rfl, rfl, rfl, by decide +kernel, rfl, by decide +kernel, by decide +kernel⟩
abbrev s_is_between : Stmt := top 9
abbrev N_is_between : List Str := ["low", "high", "thing"]
abbrev P_is_between : List Str := ["low", "high", "thing"]
theorem sc_is_between : FnScope N_is_between P_is_between (defScope s_is_between) := ⟨rfl, rfl, rfl, by decide +kernel, rfl, by decide +kernel, by decide +kernel⟩
abbrev s_is_below : Stmt := top 10
abbrev N_is_below : List Str := ["bound", "thing"]
abbrev P_is_below : List Str := ["bound", "thing"]
theorem sc_is_below : FnScope N_is_below P_is_below (defScope s_is_below) := ⟨rfl, rfl, rfl, by decide +kernel, rfl, by decide +kernel, by decide +kernel⟩
abbrev s_is_list_or_tuple : Stmt := top 11
abbrev N_is_list_or_tuple : List Str := ["thing"]
abbrev P_is_list_or_tuple : List Str := ["thing"]
theorem sc_is_list_or_tuple : FnScope N_is_list_or_tuple P_is_list_or_tuple (defScope s_is_list_or_tuple) := ⟨rfl, rfl, rfl, by decide +kernel, rfl, by decide +kernel, by decide +kernel⟩
abbrev s_is_tuple_of : Stmt := top 12
abbrev N_is_tuple_of : List Str := ["least", "most", "thing"]
abbrev P_is_tuple_of : List Str := ["least", "most", "thing"]
theorem sc_is_tuple_of : FnScope N_is_tuple_of P_is_tuple_of (defScope s_is_tuple_of) := ⟨rfl, rfl, rfl, by decide +kernel, rfl, by decide +kernel, by decide +kernel⟩
abbrev s_are_below : Stmt := top 13
abbrev N_are_below : List Str := ["bound", "things", "thing"]
abbrev P_are_below : List Str := ["bound", "things"]
theorem sc_are_below : FnScope N_are_below P_are_below (defScope s_are_below) := ⟨rfl, rfl, rfl, by decide +kernel, rfl, by decide +kernel, by decide +kernel⟩
abbrev s_is_unlike_pair : Stmt := top 14
abbrev N_is_unlike_pair : List Str := ["bound", "thing"]
abbrev P_is_unlike_pair : List Str := ["bound", "thing"]
theorem sc_is_unlike_pair : FnScope N_is_unlike_pair P_is_unlike_pair (defScope s_is_unlike_pair) := ⟨rfl, rfl, rfl, by decide +kernel, rfl, by decide +kernel, by decide +kernel⟩
abbrev s_Web_init : Stmt := inClass (top 17) 0
abbrev N_Web_init : List Str := ["self", "machines", "wires", "at"]
abbrev P_Web_init : List Str := ["self", "machines", "wires"]
theorem sc_Web_init : FnScope N_Web_init P_Web_init (defScope s_Web_init) := ⟨rfl, rfl, rfl, by decide +kernel, rfl, by decide +kernel, by decide +kernel⟩
abbrev s_Web_eq : Stmt := inClass (top 17) 1
abbrev N_Web_eq : List Str := ["self", "other"]
abbrev P_Web_eq : List Str := ["self", "other"]
theorem sc_Web_eq : FnScope N_Web_eq P_Web_eq (defScope s_Web_eq) := ⟨rfl, rfl, rfl, by decide +kernel, rfl, by decide +kernel, by decide +kernel⟩
abbrev s_first_wrong_wire : Stmt := top 18
abbrev N_first_wrong_wire : List Str := ["machines", "wires", "at", "wire"]
abbrev P_first_wrong_wire : List Str := ["machines", "wires"]
theorem sc_first_wrong_wire : FnScope N_first_wrong_wire P_first_wrong_wire (defScope s_first_wrong_wire) := ⟨rfl, rfl, rfl, by decide +kernel, rfl, by decide +kernel, by decide +kernel⟩
abbrev s_web_of_any_size : Stmt := top 19
abbrev N_web_of_any_size : List Str := ["machines", "wires", "web"]
abbrev P_web_of_any_size : List Str := ["machines", "wires"]
theorem sc_web_of_any_size : FnScope N_web_of_any_size P_web_of_any_size (defScope s_web_of_any_size) := ⟨rfl, rfl, rfl, by decide +kernel, rfl, by decide +kernel, by decide +kernel⟩
abbrev s_there_and_back : Stmt := top 20
abbrev N_there_and_back : List Str := ["pairs", "one", "other", "wire"]
abbrev P_there_and_back : List Str := ["pairs"]
theorem sc_there_and_back : FnScope N_there_and_back P_there_and_back (defScope s_there_and_back) := ⟨rfl, rfl, rfl, by decide +kernel, rfl, by decide +kernel, by decide +kernel⟩
abbrev s_all_but : Stmt := top 21
abbrev N_all_but : List Str := ["wire", "wires", "kept"]
abbrev P_all_but : List Str := ["wire", "wires"]
theorem sc_all_but : FnScope N_all_but P_all_but (defScope s_all_but) := ⟨rfl, rfl, rfl, by decide +kernel, rfl, by decide +kernel, by decide +kernel⟩
abbrev s_check_number : Stmt := top 22
abbrev N_check_number : List Str := ["least", "machines"]
abbrev P_check_number : List Str := ["least", "machines"]
theorem sc_check_number : FnScope N_check_number P_check_number (defScope s_check_number) := ⟨rfl, rfl, rfl, by decide +kernel, rfl, by decide +kernel, by decide +kernel⟩
abbrev s_are_pairs : Stmt := top 23
abbrev N_are_pairs : List Str := ["machines", "thing", "pair"]
abbrev P_are_pairs : List Str := ["machines", "thing"]
theorem sc_are_pairs : FnScope N_are_pairs P_are_pairs (defScope s_are_pairs) := ⟨rfl, rfl, rfl, by decide +kernel, rfl, by decide +kernel, by decide +kernel⟩
abbrev s_both_ways : Stmt := top 24
abbrev N_both_ways : List Str := ["machines", "pairs"]
abbrev P_both_ways : List Str := ["machines", "pairs"]
theorem sc_both_ways : FnScope N_both_ways P_both_ways (defScope s_both_ways) := ⟨rfl, rfl, rfl, by decide +kernel, rfl, by decide +kernel, by decide +kernel⟩
abbrev s_full : Stmt := top 25
abbrev N_full : List Str := ["machines"]
abbrev P_full : List Str := ["machines"]
theorem sc_full : FnScope N_full P_full (defScope s_full) := ⟨rfl, rfl, rfl, by decide +kernel, rfl, by decide +kernel, by decide +kernel⟩
abbrev s_web_of_all_wires : Stmt := top 26
abbrev N_web_of_all_wires : List Str := ["machines", "y", "x"]
abbrev P_web_of_all_wires : List Str := ["machines"]
theorem sc_web_of_all_wires : FnScope N_web_of_all_wires P_web_of_all_wires (defScope s_web_of_all_wires) := ⟨rfl, rfl, rfl, by decide +kernel, rfl, by decide +kernel, by decide +kernel⟩
abbrev s_hub : Stmt := top 27
abbrev N_hub : List Str := ["machines", "other"]
abbrev P_hub : List Str := ["machines"]
theorem sc_hub : FnScope N_hub P_hub (defScope s_hub) := ⟨rfl, rfl, rfl, by decide +kernel, rfl, by decide +kernel, by decide +kernel⟩
abbrev s_line : Stmt := top 28
abbrev N_line : List Str := ["machines"]
abbrev P_line : List Str := ["machines"]
theorem sc_line : FnScope N_line P_line (defScope s_line) := ⟨rfl, rfl, rfl, by decide +kernel, rfl, by decide +kernel, by decide +kernel⟩
abbrev s_ring : Stmt := top 29
abbrev N_ring : List Str := ["machines"]
abbrev P_ring : List Str := ["machines"]
theorem sc_ring : FnScope N_ring P_ring (defScope s_ring) := ⟨rfl, rfl, rfl, by decide +kernel, rfl, by decide +kernel, by decide +kernel⟩
abbrev s_neighbours : Stmt := top 30
abbrev N_neighbours : List Str := ["machines", "one"]
abbrev P_neighbours : List Str := ["machines"]
theorem sc_neighbours : FnScope N_neighbours P_neighbours (defScope s_neighbours) := ⟨rfl, rfl, rfl, by decide +kernel, rfl, by decide +kernel, by decide +kernel⟩
abbrev s_renamed : Stmt := top 31
abbrev N_renamed : List Str := ["web", "order", "y", "x"]
abbrev P_renamed : List Str := ["web", "order"]
theorem sc_renamed : FnScope N_renamed P_renamed (defScope s_renamed) := ⟨rfl, rfl, rfl, by decide +kernel, rfl, by decide +kernel, by decide +kernel⟩
abbrev s_is_order : Stmt := top 32
abbrev N_is_order : List Str := ["machines", "thing"]
abbrev P_is_order : List Str := ["machines", "thing"]
theorem sc_is_order : FnScope N_is_order P_is_order (defScope s_is_order) := ⟨rfl, rfl, rfl, by decide +kernel, rfl, by decide +kernel, by decide +kernel⟩
abbrev s_with_wire : Stmt := top 33
abbrev N_with_wire : List Str := ["web", "wire"]
abbrev P_with_wire : List Str := ["web", "wire"]
theorem sc_with_wire : FnScope N_with_wire P_with_wire (defScope s_with_wire) := ⟨rfl, rfl, rfl, by decide +kernel, rfl, by decide +kernel, by decide +kernel⟩
abbrev s_without_wire : Stmt := top 34
abbrev N_without_wire : List Str := ["web", "wire"]
abbrev P_without_wire : List Str := ["web", "wire"]
theorem sc_without_wire : FnScope N_without_wire P_without_wire (defScope s_without_wire) := ⟨rfl, rfl, rfl, by decide +kernel, rfl, by decide +kernel, by decide +kernel⟩
abbrev s__law_hand : Stmt := top 36
abbrev N__law_hand : List Str := ["_law_script", "_law_cells", "_law_cell"]
abbrev P__law_hand : List Str := ["_law_script"]
theorem sc__law_hand : FnScope N__law_hand P__law_hand (defScope s__law_hand) := ⟨rfl, rfl, rfl, by decide +kernel, rfl, by decide +kernel, by decide +kernel⟩
abbrev s__law_draw : Stmt := top 37
abbrev N__law_draw : List Str := ["_law_hand_here", "_law_many", "_law_cell", "_law_digit", "_law_number"]
abbrev P__law_draw : List Str := ["_law_hand_here", "_law_many"]
theorem sc__law_draw : FnScope N__law_draw P__law_draw (defScope s__law_draw) := ⟨rfl, rfl, rfl, by decide +kernel, rfl, by decide +kernel, by decide +kernel⟩
abbrev s__law_is : Stmt := top 38
abbrev N__law_is : List Str := ["_law_told", "_law_due", "_law_one", "_law_two"]
abbrev P__law_is : List Str := ["_law_told", "_law_due"]
theorem sc__law_is : FnScope N__law_is P__law_is (defScope s__law_is) := ⟨rfl, rfl, rfl, by decide +kernel, rfl, by decide +kernel, by decide +kernel⟩
abbrev s__law_web : Stmt := top 39
abbrev N__law_web : List Str := ["_law_hand_here", "_law_machines", "_law_kind", "_law_found", "_law_y", "_law_x", "_law_near"]
abbrev P__law_web : List Str := ["_law_hand_here", "_law_machines"]
theorem sc__law_web : FnScope N__law_web P__law_web (defScope s__law_web) := ⟨rfl, rfl, rfl, by decide +kernel, rfl, by decide +kernel, by decide +kernel⟩
abbrev s__law_all_wires : Stmt := top 40
abbrev N__law_all_wires : List Str := ["_law_machines", "_law_found", "_law_y", "_law_x"]
abbrev P__law_all_wires : List Str := ["_law_machines"]
theorem sc__law_all_wires : FnScope N__law_all_wires P__law_all_wires (defScope s__law_all_wires) := ⟨rfl, rfl, rfl, by decide +kernel, rfl, by decide +kernel, by decide +kernel⟩
abbrev s__law_is_web : Stmt := top 41
abbrev N__law_is_web : List Str := ["_law_web_here", "_law_machines", "_law_wires", "_law_due"]
abbrev P__law_is_web : List Str := ["_law_web_here", "_law_machines", "_law_wires"]
theorem sc__law_is_web : FnScope N__law_is_web P__law_is_web (defScope s__law_is_web) := ⟨rfl, rfl, rfl, by decide +kernel, rfl, by decide +kernel, by decide +kernel⟩
abbrev s__law_doubled : Stmt := top 42
abbrev N__law_doubled : List Str := ["_law_pairs", "_law_y", "_law_x"]
abbrev P__law_doubled : List Str := ["_law_pairs"]
theorem sc__law_doubled : FnScope N__law_doubled P__law_doubled (defScope s__law_doubled) := ⟨rfl, rfl, rfl, by decide +kernel, rfl, by decide +kernel, by decide +kernel⟩
abbrev s__law_order : Stmt := top 43
abbrev N__law_order : List Str := ["_law_hand_here", "_law_many", "_law_left", "_law_turn"]
abbrev P__law_order : List Str := ["_law_hand_here", "_law_many"]
theorem sc__law_order : FnScope N__law_order P__law_order (defScope s__law_order) := ⟨rfl, rfl, rfl, by decide +kernel, rfl, by decide +kernel, by decide +kernel⟩
abbrev s__law_turned_right : Stmt := top 44
abbrev N__law_turned_right : List Str := ["_law_hand_here", "_law_machines", "_law_wires", "_law_web_here", "_law_order_here", "_law_back", "_law_there", "_law_wire", "_law_less", "_law_more", "_law_x", "_law_y", "_law_other"]
abbrev P__law_turned_right : List Str := ["_law_hand_here", "_law_machines", "_law_wires"]
theorem sc__law_turned_right : FnScope N__law_turned_right P__law_turned_right (defScope s__law_turned_right) := ⟨rfl, rfl, rfl, by decide +kernel, rfl, by decide +kernel, by decide +kernel⟩
abbrev s_law : Stmt := top 45
abbrev N_law : List Str := ["_law_script", "_law_hand_here", "_law_turn", "_law_machines", "_law_pairs", "_law_again", "_law_wires", "_law_kept", "_law_some", "_law_row", "_law_x"]
abbrev P_law : List Str := ["_law_script"]
theorem sc_law : FnScope N_law P_law (defScope s_law) := ⟨rfl, rfl, rfl, by decide +kernel, rfl, by decide +kernel, by decide +kernel⟩
structure Ads where
  f_is_integer : Addr
  d_is_integer : FuncData
  f_is_between : Addr
  d_is_between : FuncData
  f_is_below : Addr
  d_is_below : FuncData
  f_is_list_or_tuple : Addr
  d_is_list_or_tuple : FuncData
  f_is_tuple_of : Addr
  d_is_tuple_of : FuncData
  f_are_below : Addr
  d_are_below : FuncData
  f_is_unlike_pair : Addr
  d_is_unlike_pair : FuncData
  f_Web_init : Addr
  d_Web_init : FuncData
  f_Web_eq : Addr
  d_Web_eq : FuncData
  f_first_wrong_wire : Addr
  d_first_wrong_wire : FuncData
  f_web_of_any_size : Addr
  d_web_of_any_size : FuncData
  f_there_and_back : Addr
  d_there_and_back : FuncData
  f_all_but : Addr
  d_all_but : FuncData
  f_check_number : Addr
  d_check_number : FuncData
  f_are_pairs : Addr
  d_are_pairs : FuncData
  f_both_ways : Addr
  d_both_ways : FuncData
  f_full : Addr
  d_full : FuncData
  f_web_of_all_wires : Addr
  d_web_of_all_wires : FuncData
  f_hub : Addr
  d_hub : FuncData
  f_line : Addr
  d_line : FuncData
  f_ring : Addr
  d_ring : FuncData
  f_neighbours : Addr
  d_neighbours : FuncData
  f_renamed : Addr
  d_renamed : FuncData
  f_is_order : Addr
  d_is_order : FuncData
  f_with_wire : Addr
  d_with_wire : FuncData
  f_without_wire : Addr
  d_without_wire : FuncData
  f__law_hand : Addr
  d__law_hand : FuncData
  f__law_draw : Addr
  d__law_draw : FuncData
  f__law_is : Addr
  d__law_is : FuncData
  f__law_web : Addr
  d__law_web : FuncData
  f__law_all_wires : Addr
  d__law_all_wires : FuncData
  f__law_is_web : Addr
  d__law_is_web : FuncData
  f__law_doubled : Addr
  d__law_doubled : FuncData
  f__law_order : Addr
  d__law_order : FuncData
  f__law_turned_right : Addr
  d__law_turned_right : FuncData
  f_law : Addr
  d_law : FuncData
  c_Web : Addr
  t_MOST_MACHINES : Tok
structure Txt (K : PySem.W.Frag) (mg : Str → Option Value) (a : Ads) : Prop where
  F_is_integer : Fun K "is_integer" "is_integer" s_is_integer a.f_is_integer a.d_is_integer
  b_is_integer : Binds K a.d_is_integer P_is_integer []
  m_is_integer : mg "is_integer" = some (.ref a.f_is_integer)
  F_is_between : Fun K "is_between" "is_between" s_is_between a.f_is_between a.d_is_between
  b_is_between : Binds K a.d_is_between P_is_between []
  m_is_between : mg "is_between" = some (.ref a.f_is_between)
  F_is_below : Fun K "is_below" "is_below" s_is_below a.f_is_below a.d_is_below
  b_is_below : Binds K a.d_is_below P_is_below []
  m_is_below : mg "is_below" = some (.ref a.f_is_below)
  F_is_list_or_tuple : Fun K "is_list_or_tuple" "is_list_or_tuple" s_is_list_or_tuple a.f_is_list_or_tuple a.d_is_list_or_tuple
  b_is_list_or_tuple : Binds K a.d_is_list_or_tuple P_is_list_or_tuple []
  m_is_list_or_tuple : mg "is_list_or_tuple" = some (.ref a.f_is_list_or_tuple)
  F_is_tuple_of : Fun K "is_tuple_of" "is_tuple_of" s_is_tuple_of a.f_is_tuple_of a.d_is_tuple_of
  b_is_tuple_of : Binds K a.d_is_tuple_of P_is_tuple_of []
  m_is_tuple_of : mg "is_tuple_of" = some (.ref a.f_is_tuple_of)
  F_are_below : Fun K "are_below" "are_below" s_are_below a.f_are_below a.d_are_below
  b_are_below : Binds K a.d_are_below P_are_below []
  m_are_below : mg "are_below" = some (.ref a.f_are_below)
  F_is_unlike_pair : Fun K "is_unlike_pair" "is_unlike_pair" s_is_unlike_pair a.f_is_unlike_pair a.d_is_unlike_pair
  b_is_unlike_pair : Binds K a.d_is_unlike_pair P_is_unlike_pair []
  m_is_unlike_pair : mg "is_unlike_pair" = some (.ref a.f_is_unlike_pair)
  F_Web_init : Fun K "__init__" "Web.__init__" s_Web_init a.f_Web_init a.d_Web_init
  b_Web_init : Binds K a.d_Web_init P_Web_init []
  F_Web_eq : Fun K "__eq__" "Web.__eq__" s_Web_eq a.f_Web_eq a.d_Web_eq
  b_Web_eq : Binds K a.d_Web_eq P_Web_eq []
  F_first_wrong_wire : Fun K "first_wrong_wire" "first_wrong_wire" s_first_wrong_wire a.f_first_wrong_wire a.d_first_wrong_wire
  b_first_wrong_wire : Binds K a.d_first_wrong_wire P_first_wrong_wire []
  m_first_wrong_wire : mg "first_wrong_wire" = some (.ref a.f_first_wrong_wire)
  F_web_of_any_size : Fun K "web_of_any_size" "web_of_any_size" s_web_of_any_size a.f_web_of_any_size a.d_web_of_any_size
  b_web_of_any_size : Binds K a.d_web_of_any_size P_web_of_any_size []
  m_web_of_any_size : mg "web_of_any_size" = some (.ref a.f_web_of_any_size)
  F_there_and_back : Fun K "there_and_back" "there_and_back" s_there_and_back a.f_there_and_back a.d_there_and_back
  b_there_and_back : Binds K a.d_there_and_back P_there_and_back []
  m_there_and_back : mg "there_and_back" = some (.ref a.f_there_and_back)
  F_all_but : Fun K "all_but" "all_but" s_all_but a.f_all_but a.d_all_but
  b_all_but : Binds K a.d_all_but P_all_but []
  m_all_but : mg "all_but" = some (.ref a.f_all_but)
  F_check_number : Fun K "check_number" "check_number" s_check_number a.f_check_number a.d_check_number
  b_check_number : Binds K a.d_check_number P_check_number []
  m_check_number : mg "check_number" = some (.ref a.f_check_number)
  F_are_pairs : Fun K "are_pairs" "are_pairs" s_are_pairs a.f_are_pairs a.d_are_pairs
  b_are_pairs : Binds K a.d_are_pairs P_are_pairs []
  m_are_pairs : mg "are_pairs" = some (.ref a.f_are_pairs)
  F_both_ways : Fun K "both_ways" "both_ways" s_both_ways a.f_both_ways a.d_both_ways
  b_both_ways : Binds K a.d_both_ways P_both_ways []
  m_both_ways : mg "both_ways" = some (.ref a.f_both_ways)
  F_full : Fun K "full" "full" s_full a.f_full a.d_full
  b_full : Binds K a.d_full P_full []
  m_full : mg "full" = some (.ref a.f_full)
  F_web_of_all_wires : Fun K "web_of_all_wires" "web_of_all_wires" s_web_of_all_wires a.f_web_of_all_wires a.d_web_of_all_wires
  b_web_of_all_wires : Binds K a.d_web_of_all_wires P_web_of_all_wires []
  m_web_of_all_wires : mg "web_of_all_wires" = some (.ref a.f_web_of_all_wires)
  F_hub : Fun K "hub" "hub" s_hub a.f_hub a.d_hub
  b_hub : Binds K a.d_hub P_hub []
  m_hub : mg "hub" = some (.ref a.f_hub)
  F_line : Fun K "line" "line" s_line a.f_line a.d_line
  b_line : Binds K a.d_line P_line []
  m_line : mg "line" = some (.ref a.f_line)
  F_ring : Fun K "ring" "ring" s_ring a.f_ring a.d_ring
  b_ring : Binds K a.d_ring P_ring []
  m_ring : mg "ring" = some (.ref a.f_ring)
  F_neighbours : Fun K "neighbours" "neighbours" s_neighbours a.f_neighbours a.d_neighbours
  b_neighbours : Binds K a.d_neighbours P_neighbours []
  m_neighbours : mg "neighbours" = some (.ref a.f_neighbours)
  F_renamed : Fun K "renamed" "renamed" s_renamed a.f_renamed a.d_renamed
  b_renamed : Binds K a.d_renamed P_renamed []
  m_renamed : mg "renamed" = some (.ref a.f_renamed)
  F_is_order : Fun K "is_order" "is_order" s_is_order a.f_is_order a.d_is_order
  b_is_order : Binds K a.d_is_order P_is_order []
  m_is_order : mg "is_order" = some (.ref a.f_is_order)
  F_with_wire : Fun K "with_wire" "with_wire" s_with_wire a.f_with_wire a.d_with_wire
  b_with_wire : Binds K a.d_with_wire P_with_wire []
  m_with_wire : mg "with_wire" = some (.ref a.f_with_wire)
  F_without_wire : Fun K "without_wire" "without_wire" s_without_wire a.f_without_wire a.d_without_wire
  b_without_wire : Binds K a.d_without_wire P_without_wire []
  m_without_wire : mg "without_wire" = some (.ref a.f_without_wire)
  F__law_hand : Fun K "_law_hand" "_law_hand" s__law_hand a.f__law_hand a.d__law_hand
  b__law_hand : Binds K a.d__law_hand P__law_hand []
  m__law_hand : mg "_law_hand" = some (.ref a.f__law_hand)
  F__law_draw : Fun K "_law_draw" "_law_draw" s__law_draw a.f__law_draw a.d__law_draw
  b__law_draw : Binds K a.d__law_draw P__law_draw []
  m__law_draw : mg "_law_draw" = some (.ref a.f__law_draw)
  F__law_is : Fun K "_law_is" "_law_is" s__law_is a.f__law_is a.d__law_is
  b__law_is : Binds K a.d__law_is P__law_is []
  m__law_is : mg "_law_is" = some (.ref a.f__law_is)
  F__law_web : Fun K "_law_web" "_law_web" s__law_web a.f__law_web a.d__law_web
  b__law_web : Binds K a.d__law_web P__law_web []
  m__law_web : mg "_law_web" = some (.ref a.f__law_web)
  F__law_all_wires : Fun K "_law_all_wires" "_law_all_wires" s__law_all_wires a.f__law_all_wires a.d__law_all_wires
  b__law_all_wires : Binds K a.d__law_all_wires P__law_all_wires []
  m__law_all_wires : mg "_law_all_wires" = some (.ref a.f__law_all_wires)
  F__law_is_web : Fun K "_law_is_web" "_law_is_web" s__law_is_web a.f__law_is_web a.d__law_is_web
  b__law_is_web : Binds K a.d__law_is_web P__law_is_web []
  m__law_is_web : mg "_law_is_web" = some (.ref a.f__law_is_web)
  F__law_doubled : Fun K "_law_doubled" "_law_doubled" s__law_doubled a.f__law_doubled a.d__law_doubled
  b__law_doubled : Binds K a.d__law_doubled P__law_doubled []
  m__law_doubled : mg "_law_doubled" = some (.ref a.f__law_doubled)
  F__law_order : Fun K "_law_order" "_law_order" s__law_order a.f__law_order a.d__law_order
  b__law_order : Binds K a.d__law_order P__law_order []
  m__law_order : mg "_law_order" = some (.ref a.f__law_order)
  F__law_turned_right : Fun K "_law_turned_right" "_law_turned_right" s__law_turned_right a.f__law_turned_right a.d__law_turned_right
  b__law_turned_right : Binds K a.d__law_turned_right P__law_turned_right []
  m__law_turned_right : mg "_law_turned_right" = some (.ref a.f__law_turned_right)
  F_law : Fun K "law" "law" s_law a.f_law a.d_law
  b_law : Binds K a.d_law P_law []
  m_law : mg "law" = some (.ref a.f_law)
  m_Web : mg "Web" = some (.ref a.c_Web)
  cl_Web : Cls K a.c_Web
  K_Web : Mk K a.c_Web a.f_Web_init
  ic_Web : C8.InsC K a.c_Web
  eqf_Web : PySem.W.findIn K (.ref a.c_Web) "__eq__" = some (some (.ref a.f_Web_eq))
  eqi_Web : PySem.W.isFn K (.ref a.f_Web_eq) = true
  ne_Web : PySem.W.findIn K (.ref a.c_Web) "__ne__" = some (some (.builtin "object.__ne__"))
  na_Web_machines : NoAttr K a.c_Web "machines"
  na_Web_wires : NoAttr K a.c_Web "wires"
  m_MOST_MACHINES : mg "MOST_MACHINES" = some (.int 7 a.t_MOST_MACHINES)
  n_isinstance : mg "isinstance" = none
  n_int : mg "int" = none
  n_bool : mg "bool" = none
  n_list : mg "list" = none
  n_tuple : mg "tuple" = none
  n_len : mg "len" = none
  n_all : mg "all" = none
  n_enumerate : mg "enumerate" = none
  n_sorted : mg "sorted" = none
  n_set : mg "set" = none
  n_range : mg "range" = none
  n_zip : mg "zip" = none
  n_abs : mg "abs" = none
  n_min : mg "min" = none
end Mine
/-! ## K1 -/
section
open PySem L2 GA
local macro_rules
  | `(tactic| walk_at "w") => `(tactic| first
    | ((with_reducible refine' GA.w_var ?e ?_); (case e => exact rfl))
    | (with_reducible refine' GA.w_c ?_)
    | (with_reducible refine' GA.w_cons ?_)
    | (with_reducible refine' GA.w_nil ?_)
    | (with_reducible refine' GA.w_op ?_)
    | (with_reducible refine' GA.r_I0 ?_)
    | (with_reducible refine' GA.w_bl ?_)
    | (with_reducible refine' GA.w_seq ?_)
    | (with_reducible refine' GA.w_set ?_)
    | (with_reducible refine' GA.w_ret ?_)
    | (with_reducible refine' GA.w_ifS ?_)
    | (with_reducible refine' GA.w_test ?_)
    | (with_reducible refine' GA.w_tB ?_)
    | (with_reducible refine' GA.w_not ?_)
    | (with_reducible refine' GA.w_and ?_)
    | (with_reducible refine' GA.w_or ?_)
    | (with_reducible refine' GA.w_andV ?_)
    | (with_reducible refine' GA.w_orV ?_)
    | (with_reducible refine' GA.w_notV ?_)
    | (with_reducible refine' GA.w_blc ?_)
    | (with_reducible refine' GA.w_if ?_)
    | (with_reducible refine' GA.w_CB ?_)
    | (with_reducible refine' GA.w_call ?_)
    | (with_reducible refine' GA.w_tupN ?_)
    | (with_reducible refine' GA.w_lstN ?_)
    | (with_reducible refine' GA.w_chain ?_)
    | (with_reducible refine' GA.w_drop ?_)
    | (with_reducible refine' GA.w_next ?_)
    | (with_reducible refine' GA.w_break ?_)
    | (with_reducible refine' GA.w_un ?_)
    | (with_reducible refine' GA.r_U ?_)
    | (with_reducible refine' GA.r_eqI ?_)
    | (with_reducible refine' GA.r_neI ?_)
    | (with_reducible refine' GA.r_eqB ?_)
    | (with_reducible refine' GA.r_neB ?_)
    | (with_reducible refine' GA.w_fld ?_)
    | (with_reducible refine' GA.w_sfld ?_)
    | (with_reducible refine' GA.w_sl ?_)
    | (with_reducible refine' GA.w_part ?_)
    | (with_reducible refine' GA.w_noPart ?_)
    | (with_reducible refine' GA.w_inti ?_)
    | (with_reducible refine' GA.w_retN ?_)
    | (with_reducible refine' GA.w_gsub ?_)
    | (with_reducible refine' GA.w_gname ?_)
    | (with_reducible refine' L2.iteT ?_)
    | (with_reducible refine' L2.iteF ?_)
    | (with_reducible refine' GA.w_nt ?_)
    | (with_reducible refine' GA.w_nf ?_)
    | (with_reducible refine' GA.w_isN ?_)
    | (with_reducible refine' GA.w_notN ?_)
    | (with_reducible refine' GA.w_yes ?_)
    | (with_reducible refine' GA.w_lc ?_)
    | (with_reducible refine' GA.w_lc2 ?_)
    | (with_reducible refine' GA.w_iseq ?_)
    | (with_reducible refine' GA.w_make ?_)
    | (with_reducible refine' GA.w_for ?_)
    | (with_reducible refine' GA.w_rng1 ?_)
    | (with_reducible refine' GA.w_rng2 ?_)
    | (with_reducible refine' GA.w_itup ?_)
    | (with_reducible refine' GA.w_ilist ?_)
    | (with_reducible refine' GA.w_ienum ?_)
    | (with_reducible refine' GA.w_BM ?_)
    | (with_reducible refine' GA.w_BM0 ?_)
    | (with_reducible refine' GA.w_izip ?_)
    | (with_reducible refine' GA.w_asg ?_))
  | `(tactic| walk_at "wm") => `(tactic| first
    | ((with_reducible refine' GA.w_var ?e ?_); (case e => exact rfl))
    | (with_reducible refine' GA.w_c ?_)
    | (with_reducible refine' GA.w_cons ?_)
    | (with_reducible refine' GA.w_nil ?_)
    | (with_reducible refine' GA.w_op ?_)
    | (with_reducible refine' GA.r_I0 ?_)
    | (with_reducible refine' GA.w_bl ?_)
    | (with_reducible refine' GA.w_set ?_)
    | (with_reducible refine' GA.w_ret ?_)
    | (with_reducible refine' GA.w_ifS ?_)
    | (with_reducible refine' GA.w_test ?_)
    | (with_reducible refine' GA.w_tB ?_)
    | (with_reducible refine' GA.w_not ?_)
    | (with_reducible refine' GA.w_and ?_)
    | (with_reducible refine' GA.w_or ?_)
    | (with_reducible refine' GA.w_andV ?_)
    | (with_reducible refine' GA.w_orV ?_)
    | (with_reducible refine' GA.w_notV ?_)
    | (with_reducible refine' GA.w_blc ?_)
    | (with_reducible refine' GA.w_if ?_)
    | (with_reducible refine' GA.w_CB ?_)
    | (with_reducible refine' GA.w_call ?_)
    | (with_reducible refine' GA.w_tupN ?_)
    | (with_reducible refine' GA.w_lstN ?_)
    | (with_reducible refine' GA.w_chain ?_)
    | (with_reducible refine' GA.w_drop ?_)
    | (with_reducible refine' GA.w_next ?_)
    | (with_reducible refine' GA.w_break ?_)
    | (with_reducible refine' GA.w_un ?_)
    | (with_reducible refine' GA.r_U ?_)
    | (with_reducible refine' GA.r_eqI ?_)
    | (with_reducible refine' GA.r_neI ?_)
    | (with_reducible refine' GA.r_eqB ?_)
    | (with_reducible refine' GA.r_neB ?_)
    | (with_reducible refine' GA.w_fld ?_)
    | (with_reducible refine' GA.w_sfld ?_)
    | (with_reducible refine' GA.w_sl ?_)
    | (with_reducible refine' GA.w_part ?_)
    | (with_reducible refine' GA.w_noPart ?_)
    | (with_reducible refine' GA.w_inti ?_)
    | (with_reducible refine' GA.w_retN ?_)
    | (with_reducible refine' GA.w_gsub ?_)
    | (with_reducible refine' GA.w_gname ?_)
    | (with_reducible refine' L2.iteT ?_)
    | (with_reducible refine' L2.iteF ?_)
    | (with_reducible refine' GA.w_nt ?_)
    | (with_reducible refine' GA.w_nf ?_)
    | (with_reducible refine' GA.w_isN ?_)
    | (with_reducible refine' GA.w_notN ?_)
    | (with_reducible refine' GA.w_yes ?_)
    | (with_reducible refine' GA.w_lc ?_)
    | (with_reducible refine' GA.w_lc2 ?_)
    | (with_reducible refine' GA.w_iseq ?_)
    | (with_reducible refine' GA.w_make ?_)
    | (with_reducible refine' GA.w_for ?_)
    | (with_reducible refine' GA.w_rng1 ?_)
    | (with_reducible refine' GA.w_rng2 ?_)
    | (with_reducible refine' GA.w_itup ?_)
    | (with_reducible refine' GA.w_ilist ?_)
    | (with_reducible refine' GA.w_ienum ?_)
    | (with_reducible refine' GA.w_BM ?_)
    | (with_reducible refine' GA.w_BM0 ?_)
    | (with_reducible refine' GA.w_izip ?_)
    | (with_reducible refine' GA.w_asg ?_))
  | `(tactic| walk_at "ws") => `(tactic| repeat (walk_at "w"))
  | `(tactic| walk_at "wn") => `(tactic| repeat (walk_at "wm"))


namespace Mine
section
variable {P : Program} {w : World} {K : PySem.W.Frag} {mg : Str → Option Value} {base : Heap} {a : Ads}

theorem tyx_tup {H : Hp} {p : Addr} {xs : List V} (h : SqT K H p xs) : TyX K H (.ref p) (.type "tuple") := by
  rcases h with (h | ⟨o, h⟩) | ⟨o, its, n, h1, h2, _⟩
  · exact .base (.tup h)
  · exact .fTuple h
  · exact .kTuple h1 h2
theorem r_isi {x : V} {t : Value} {n : String} {b : Bool} {H : Hp} {Q : VK} (ty : TyX K H x t) (e : PySem.W.kitOne K t (.type n) = some b) (q : Q (.bl b) H) : rIsi K [x, .ty n] H Q := ⟨x, .ty n, t, .type n, b, rfl, .ty n, ty, e, q⟩
theorem ki_ii : PySem.W.kitOne K (.type "int") (.type "int") = some true := kit_ty (by decide +kernel)
theorem ki_ib : PySem.W.kitOne K (.type "int") (.type "bool") = some false := kit_ty (by decide +kernel)
theorem ki_bb : PySem.W.kitOne K (.type "bool") (.type "bool") = some true := kit_ty (by decide +kernel)
theorem ki_tt : PySem.W.kitOne K (.type "tuple") (.type "tuple") = some true := kit_ty (by decide +kernel)
theorem ki_tb : PySem.W.kitOne K (.type "tuple") (.type "bool") = some false := kit_ty (by decide +kernel)
theorem ki_it : PySem.W.kitOne K (.type "int") (.type "tuple") = some false := kit_ty (by decide +kernel)
theorem ty_int {H : Hp} {i : Int} : TyX K H (.int i) (.type "int") := .base (.int i)
theorem ty_bl {H : Hp} {i : Bool} : TyX K H (.bl i) (.type "bool") := .base (.bl i)
def sp_is_integer : Sp := fun vs H Q _ => ∃ i : Int, vs = [.int i] ∧ Q (.bl true) H
theorem ok_is_integer (T : Txt K mg a) : FnOk P w K mg base CX0 1 a.f_is_integer a.d_is_integer P_is_integer sp_is_integer := by
  refine T.F_is_integer.ok sc_is_integer (fun vs H Q E h => by obtain ⟨i, rfl, _⟩ := h; rfl) (fun cdv A outer s H vs Q E hr h => ?_)
  obtain ⟨i, rfl, k⟩ := h
  refine ⟨_, (pss_one (ps_ret (pe_and (pe_callB call_isi (by rfl) T.n_isinstance (by decide +kernel) (pa_cons (pv 0) (pa_cons (pe_bltn (v := .ty "int") (u := .type "int") rfl T.n_int (by decide +kernel) rfl) pa_nil))) (pe_one (pe_not (pe_callB call_isi (by rfl) T.n_isinstance (by decide +kernel) (pa_cons (pv 0) (pa_cons (pe_bltn (v := .ty "bool") (u := .type "bool") rfl T.n_bool (by decide +kernel) rfl) pa_nil)))))))), ?_⟩
  walk_at "ws"
  refine r_isi ty_int ki_ii ?_
  walk_at "ws"
  refine r_isi ty_int ki_ib ?_
  walk_at "ws"
  exact k

def sp_is_between : Sp := fun vs H Q _ => ∃ lo hi i : Int, vs = [.int lo, .int hi, .int i] ∧ Q (.bl (decide (lo ≤ i) && decide (i ≤ hi))) H
theorem ok_is_between (T : Txt K mg a) : FnOk P w K mg base CX0 2 a.f_is_between a.d_is_between P_is_between sp_is_between := by
  refine T.F_is_between.ok sc_is_between (fun vs H Q E h => by obtain ⟨lo, hi, i, rfl, _⟩ := h; rfl) (fun cdv A outer s H vs Q E hr h => ?_)
  obtain ⟨lo, hi, i, rfl, k⟩ := h
  have G_is_integer : FnOk P w K mg base CX0 1 a.f_is_integer a.d_is_integer P_is_integer sp_is_integer := ok_is_integer T
  refine ⟨_, (pss_one (ps_ret (pe_and (pe_call (G_is_integer) (hr.mono (by omega)) rfl T.m_is_integer T.F_is_integer.kp T.b_is_integer .nil pass0 (pa_cons (pv 2) pa_nil)) (pe_one (pe_chain op_le op_le (pv 0) (pv 2) (pv 1)))))), ?_⟩
  walk_at "ws"
  refine ⟨_, rfl, ?_⟩
  walk_at "ws"
  refine w_ite (fun e => ?_) (fun e => ?_)
  · walk_at "ws"
    rw [e] at k
    exact k
  · rw [e] at k
    exact k

def sp_is_below : Sp := fun vs H Q _ => ∃ b i : Int, vs = [.int b, .int i] ∧ Q (.bl (decide (0 ≤ i) && decide (i < b))) H
theorem ok_is_below (T : Txt K mg a) : FnOk P w K mg base CX0 3 a.f_is_below a.d_is_below P_is_below sp_is_below := by
  refine T.F_is_below.ok sc_is_below (fun vs H Q E h => by obtain ⟨b, i, rfl, _⟩ := h; rfl) (fun cdv A outer s H vs Q E hr h => ?_)
  obtain ⟨b, i, rfl, k⟩ := h
  have G_is_between : FnOk P w K mg base CX0 2 a.f_is_between a.d_is_between P_is_between sp_is_between := ok_is_between T
  refine ⟨_, (pss_one (ps_ret (pe_call (G_is_between) (hr.mono (by omega)) rfl T.m_is_between T.F_is_between.kp T.b_is_between .nil pass0 (pa_cons pe_int (pa_cons (pe_op op_sub (pv 0) pe_int) (pa_cons (pv 1) pa_nil)))))), ?_⟩
  walk_at "ws"
  refine ⟨_, _, _, rfl, ?_⟩
  have e : decide (i ≤ b - 1) = decide (i < b) := by simp only [decide_eq_decide]; omega
  rw [e]
  exact k

def sp_is_tuple_of (K : PySem.W.Frag) : Sp := fun vs H Q _ => ∃ (lo hi : Int) (p : Addr) (xs : List V), vs = [.int lo, .int hi, .ref p] ∧ SqT K H p xs ∧ Q (.bl (decide (lo ≤ xs.length) && decide ((xs.length : Int) ≤ hi))) H
theorem ok_is_tuple_of (T : Txt K mg a) : FnOk P w K mg base CX0 1 a.f_is_tuple_of a.d_is_tuple_of P_is_tuple_of (sp_is_tuple_of K) := by
  refine T.F_is_tuple_of.ok sc_is_tuple_of (fun vs H Q E h => by obtain ⟨lo, hi, p, xs, rfl, _⟩ := h; rfl) (fun cdv A outer s H vs Q E hr h => ?_)
  obtain ⟨lo, hi, p, xs, rfl, hx, k⟩ := h
  refine ⟨_, (pss_one (ps_ret (pe_and (pe_callB call_isi (by rfl) T.n_isinstance (by decide +kernel) (pa_cons (pv 2) (pa_cons (pe_bltn (v := .ty "tuple") (u := .type "tuple") rfl T.n_tuple (by decide +kernel) rfl) pa_nil))) (pe_one (pe_chain op_le op_le (pv 0) (pe_callB call_len_seq (by rfl) T.n_len (by decide +kernel) (pa_cons (pv 2) pa_nil)) (pv 1)))))), ?_⟩
  walk_at "ws"
  refine r_isi (tyx_tup hx) ki_tt ?_
  walk_at "ws"
  refine ⟨_, _, rfl, .inr hx, ?_⟩
  walk_at "ws"
  refine w_ite (fun e => ?_) (fun e => ?_)
  · walk_at "ws"
    rw [e] at k
    exact k
  · rw [e] at k
    exact k

end
end Mine
/-! ## K2 -/


namespace Mine
section
variable {P : Program} {w : World} {K : PySem.W.Frag} {mg : Str → Option Value} {base : Heap} {a : Ads}

/-! ### are_below, is_unlike_pair -/
def inB (b : Int) (n : Int) : Bool := decide (0 ≤ n) && decide (n < b)
def sp_are_below (K : PySem.W.Frag) : Sp := fun vs H Q _ => ∃ (b : Int) (p : Addr) (ns : List Int), vs = [.int b, .ref p] ∧ SqT K H p (ns.map V.int) ∧ ns.length ≤ 100000 ∧ ∀ H', G none H H' → Q (.bl (ns.all (inB b))) H'
theorem ok_are_below (T : Txt K mg a) : FnOk P w K mg base CX0 4 a.f_are_below a.d_are_below P_are_below (sp_are_below K) := by
  refine T.F_are_below.ok sc_are_below (fun vs H Q E h => by obtain ⟨b, p, ns, rfl, _⟩ := h; rfl) (fun cdv A outer s H vs Q E hr h => ?_)
  obtain ⟨b, p, ns, rfl, hx, hz, k⟩ := h
  have G_is_below : FnOk P w K mg base CX0 3 a.f_is_below a.d_is_below P_is_below sp_is_below := ok_is_below T
  refine ⟨_, (pss_one (ps_ret (pe_callB (cr_all rfl) (by rfl) T.n_all (by decide +kernel) (pa_cons (pe_lc (own := [("thing", 2)]) (g := (gName 2)) (tt := tYes) rfl sc_are_below.nd (pi_tup (pv 1)) (blkOk_by (N := N_are_below) (sc := defScope s_are_below) (by decide +kernel)) (fun _ _ _ _ _ => (pg_name (i := 2) sc_are_below.nd rfl (by first | exact Or.inl rfl | exact Or.inr rfl))) (fun _ _ _ _ _ => pts_nil) (fun _ _ _ _ _ => (pe_call (G_is_below) (hr.mono (by omega)) rfl T.m_is_below T.F_is_below.kp T.b_is_below .nil pass0 (pa_cons (pv 0) (pa_cons (pv 2) pa_nil))))) pa_nil)))), ?_⟩
  walk_at "ws"
  refine i_tup hx ?_
  intro D hD
  refine lc_pure (K := K) (o := none) walk_tup (by rw [List.length_map]; exact hz) hD (fun _ e => nomatch e) (fun i => ns[i]?.map fun n => .bool (inB b n)) (fun H' g => sqT_t g.tups hx) ?_ ?_
  · rintro i x H1 H2 hi g ⟨rfl, hx1⟩ Qy Qn ky kn
    obtain ⟨n, hn, rfl⟩ : ∃ n, ns[i]? = some n ∧ V.int n = x := by
      rw [List.getElem?_map] at hx1; exact Option.map_eq_some_iff.mp hx1
    walk_at "ws"
    refine ⟨rfl, ?_⟩
    walk_at "ws"
    refine ⟨_, _, rfl, ky _ _ _ G.refl (.bl _) rfl (by rw [hn]; rfl)⟩
  · intro xs H' g hD' hds _
    rw [List.length_map, filterMap_range_map] at hds
    have e : xs = (ns.map (inB b)).map V.bl := by
      clear hD' g
      generalize ns = l at hds
      induction l generalizing xs with
      | nil => cases hds; rfl
      | cons n l ih =>
        cases hds with
        | cons h t => cases h; rw [ih _ t]; rfl
    subst e
    walk_at "ws"
    refine ⟨D, ns.map (inB b), rfl, SqL.of hD', ?_⟩
    have e : (ns.map (inB b)).all id = ns.all (inB b) := by rw [List.all_map]; rfl
    rw [e]
    exact k _ g

end
end Mine
/-! ## K3 -/


namespace Mine
section
variable {P : Program} {w : World} {K : PySem.W.Frag} {mg : Str → Option Value} {base : Heap} {a : Ads}

def sp_is_unlike_pair (K : PySem.W.Frag) : Sp := fun vs H Q _ => ∃ (b : Int) (p : Addr) (i j : Int), vs = [.int b, .ref p] ∧ SqT K H p [.int i, .int j] ∧ ∀ H', G none H H' → Q (.bl (inB b i && inB b j && !decide (i = j))) H'
theorem ok_is_unlike_pair (T : Txt K mg a) : FnOk P w K mg base CX0 5 a.f_is_unlike_pair a.d_is_unlike_pair P_is_unlike_pair (sp_is_unlike_pair K) := by
  refine T.F_is_unlike_pair.ok sc_is_unlike_pair (fun vs H Q E h => by obtain ⟨b, p, i, j, rfl, _⟩ := h; rfl) (fun cdv A outer s H vs Q E hr h => ?_)
  obtain ⟨b, p, i, j, rfl, hx, k⟩ := h
  have G_is_tuple_of : FnOk P w K mg base CX0 1 a.f_is_tuple_of a.d_is_tuple_of P_is_tuple_of (sp_is_tuple_of K) := ok_is_tuple_of T
  have G_are_below : FnOk P w K mg base CX0 4 a.f_are_below a.d_are_below P_are_below (sp_are_below K) := ok_are_below T
  refine ⟨_, (pss_one (ps_ret (pe_and (pe_call (G_is_tuple_of) (hr.mono (by omega)) rfl T.m_is_tuple_of T.F_is_tuple_of.kp T.b_is_tuple_of .nil pass0 (pa_cons pe_int (pa_cons pe_int (pa_cons (pv 1) pa_nil)))) (pe_and (pe_call (G_are_below) (hr.mono (by omega)) rfl T.m_are_below T.F_are_below.kp T.b_are_below .nil pass0 (pa_cons (pv 0) (pa_cons (pv 1) pa_nil))) (pe_one (pe_cmpR op_ne (pe_ix ix_tup (pv 1) pe_int (fun _ _ => rfl)) (pe_ix ix_tup (pv 1) pe_int (fun _ _ => rfl)) (nomark _))))))), ?_⟩
  walk_at "ws"
  refine ⟨_, _, _, _, rfl, hx, ?_⟩
  walk_at "ws"
  refine w_iteE rfl ?_
  walk_at "ws"
  refine ⟨b, p, [i, j], rfl, hx, (by show 2 ≤ 100000; decide), fun H1 g1 => ?_⟩
  have e1 : ([i, j] : List Int).all (inB b) = (inB b i && inB b j) := by simp
  rw [e1]
  walk_at "ws"
  refine w_ite (fun e => ?_) (fun e => ?_)
  · walk_at "ws"
    have hx1 := sqT_t g1.tups hx
    refine r_ixT hx1 (v := .int i) rfl ?_
    walk_at "ws"
    refine r_ixT hx1 (v := .int j) rfl ?_
    walk_at "ws"
    have k := k H1 g1
    rw [e] at k
    exact k
  · have k := k H1 g1
    rw [e] at k
    exact k

/-! ### webs -/
def ltP (u v : Int × Int) : Prop := u.1 < v.1 ∨ (u.1 = v.1 ∧ u.2 < v.2)
structure IsWeb (m : Int) (ws : List (Int × Int)) : Prop where
  lo : 1 ≤ m
  hi : m ≤ 7
  mem : ∀ u ∈ ws, (0 ≤ u.1 ∧ u.1 < m) ∧ (0 ≤ u.2 ∧ u.2 < m) ∧ u.1 ≠ u.2
  asc : ws.Pairwise ltP
def sp_first_wrong_wire (K : PySem.W.Frag) : Sp := fun vs H Q _ => ∃ (m : Int) (p : Addr) (ws : List (Int × Int)), vs = [.int m, .ref p] ∧ Dp K H (.ref p) (dW ws) ∧ IsWeb m ws ∧ ∀ H', G none H H' → Q .non H'
theorem le_pair {i j k l : Int} : Ob.lexAt (fun n => decide (([i, j] : List Int).getD n 0 = ([k, l] : List Int).getD n 0)) (fun n => decide (([i, j] : List Int).getD n 0 ≤ ([k, l] : List Int).getD n 0)) (decide (([i, j] : List Int).length ≤ ([k, l] : List Int).length)) 0 (min ([i, j] : List Int).length ([k, l] : List Int).length) = decide (i < k ∨ (i = k ∧ j ≤ l)) := by
  show (if decide (i = k) = true then (if decide (j = l) = true then true else decide (j ≤ l)) else decide (i ≤ k)) = _
  by_cases h1 : i = k
  · subst h1
    by_cases h2 : j = l
    · subst h2; simp
    · simp [h2]
  · have e : decide (i ≤ k) = decide (i < k) := by simp only [decide_eq_decide]; omega
    simp [h1, e]
theorem ok_first_wrong_wire (T : Txt K mg a) : FnOk P w K mg base CX0 6 a.f_first_wrong_wire a.d_first_wrong_wire P_first_wrong_wire (sp_first_wrong_wire K) := by
  refine T.F_first_wrong_wire.ok sc_first_wrong_wire (fun vs H Q E h => by obtain ⟨m, p, ws, rfl, _⟩ := h; rfl) (fun cdv A outer s H vs Q E hr h => ?_)
  obtain ⟨m, p, ws, rfl, hx, hw, k⟩ := h
  have G_is_unlike_pair : FnOk P w K mg base CX0 5 a.f_is_unlike_pair a.d_is_unlike_pair P_is_unlike_pair (sp_is_unlike_pair K) := ok_is_unlike_pair T
  obtain ⟨p', xs, ep, hxs, hds⟩ := dp_tup hx
  cases ep
  refine ⟨_, (pss_cons (ps_for PassesOwn.never rfl (pi_enumT (by rfl) T.n_enumerate (pa_cons (pv 1) pa_nil)) (pg_tup rfl (pgs_cons (pg_name (i := 2) sc_first_wrong_wire.nd rfl (Or.inl rfl)) (pgs_cons (pg_name (i := 3) sc_first_wrong_wire.nd rfl (Or.inl rfl)) pgs_nil)))
    (pss_cons (ps_if (pt_not (pt_val (pe_call (G_is_unlike_pair) (hr.mono (by omega)) rfl T.m_is_unlike_pair T.F_is_unlike_pair.kp T.b_is_unlike_pair .nil pass0 (pa_cons (pv 0) (pa_cons (pv 3) pa_nil)))))
    (pss_one (ps_ret (pv 2)))
    pss_nil)
  (pss_one (ps_if (L2.PW.pt (pw_and (pt_cmpR op_gt (pv 2) pe_int (nomark _)) (pw_and1 (pt_cmpR (op_leT hr.units0) (pv 3) (pe_ix ix_tup (pv 1) (pe_op op_sub (pv 2) pe_int) (fun _ _ => rfl)) (nomark _)))))
    (pss_one (ps_ret (pv 2)))
    pss_nil))))
  (pss_one (ps_ret pe_non))), ?_⟩
  walk_at "ws"
  refine i_enum hxs ?_
  refine for_it (walk_enumT (xs := xs)) (fun i σ H1 => G none H H1 ∧ ∃ u v, σ = [some (.int m), some (.ref p), u, v]) ⟨G.refl, _, _, rfl⟩ (fun i σ H1 _ h => sqT_t h.1.tups hxs) ?_ ?_
  · rintro i x σ H1 H2 hi ⟨g1, u, v, rfl⟩ ⟨t, y, z, rfl, ht, rfl, ey, ez⟩
    cases Option.some.inj ey
    have g2 : G none H1 (upd H1 t (.tup [.int (i : Nat), z])) := G.alloc ht
    refine ⟨t, _, rfl, SqT.of upd_same, rfl, ?_⟩
    refine ⟨_, _, rfl, ?_⟩
    walk_at "ws"
    refine ⟨_, _, rfl, ?_⟩
    walk_at "ws"
    refine ⟨rfl, ?_⟩
    generalize upd H1 t (.tup [.int (i : Nat), z]) = H2 at g2 ⊢
    have g02 := g1.trans g2
    obtain ⟨d, hd, hz⟩ := DpAll.get hds ez
    rw [List.getElem?_map] at hd
    obtain ⟨w0, hw0, rfl⟩ := Option.map_eq_some_iff.mp hd
    obtain ⟨q, rfl, hq⟩ := dp_dP hz
    have hm := hw.mem w0 (List.mem_of_getElem? hw0)
    walk_at "ws"
    refine ⟨m, q, w0.1, w0.2, rfl, sqT_t g02.tups hq, fun H3 g3 => ?_⟩
    have g03 := g02.trans g3
    have e1 : (inB m w0.1 && inB m w0.2 && !decide (w0.1 = w0.2)) = true := by
      simp only [inB, Bool.and_eq_true, decide_eq_true_eq, Bool.not_eq_true', decide_eq_false_iff_not]
      omega
    rw [e1]
    walk_at "ws"
    refine w_ite (fun e => ?_) (fun e => ?_)
    · walk_at "ws"
      have hi0 : 0 < i := by simpa using e
      obtain ⟨v1, hv1⟩ : ∃ v1, xs[i - 1]? = some v1 := ⟨_, List.getElem?_eq_getElem (show i - 1 < xs.length by omega)⟩
      obtain ⟨d1, hd1, hz1⟩ := DpAll.get hds hv1
      rw [List.getElem?_map] at hd1
      obtain ⟨w1, hw1, rfl⟩ := Option.map_eq_some_iff.mp hd1
      obtain ⟨q1, rfl, hq1⟩ := dp_dP hz1
      have ei : ((i : Nat) : Int) - 1 = ((i - 1 : Nat) : Int) := by omega
      rw [ei]
      refine r_ixT (sqT_t g03.tups hxs) (atI_nat hv1) ?_
      refine ⟨q, q1, [w0.1, w0.2], [w1.1, w1.2], rfl, rfl, sqT_t g03.tups hq, sqT_t g03.tups hq1, ?_⟩
      rw [le_pair]
      walk_at "ws"
      have hlt : ltP w1 w0 := by
        obtain ⟨l1, e1⟩ := List.getElem?_eq_some_iff.mp hw1
        obtain ⟨l0, e0⟩ := List.getElem?_eq_some_iff.mp hw0
        have := List.pairwise_iff_getElem.mp hw.asc (i - 1) i l1 l0 (by omega)
        rw [e1, e0] at this
        exact this
      have e2 : decide (w0.1 < w1.1 ∨ w0.1 = w1.1 ∧ w0.2 ≤ w1.2) = false := by
        rw [decide_eq_false_iff_not]
        unfold ltP at hlt
        omega
      rw [e2]
      walk_at "ws"
      exact ⟨g03, _, _, rfl⟩
    · walk_at "ws"
      exact ⟨g03, _, _, rfl⟩
  · rintro σ H1 ⟨g1, u, v, rfl⟩
    walk_at "ws"
    exact k _ g1

end
end Mine
/-! ## K4 -/


namespace Mine
section
variable {P : Program} {w : World} {K : PySem.W.Frag} {mg : Str → Option Value} {base : Heap} {a : Ads}

/-! ### a web as an instance -/
theorem mw_ : ¬ (("machines" : Str) = "wires") := by decide +kernel
theorem wm_ : ¬ (("wires" : Str) = "machines") := by decide +kernel
def wf (m wa : V) : List (Str × V) := [("machines", m), ("wires", wa)]
theorem wf_m (m wa : V) : (wf m wa).lookup ("machines" : Str) = some m := by simp [wf, List.lookup]
theorem wf_w (m wa : V) : (wf m wa).lookup ("wires" : Str) = some wa := by
  have e : (("wires" : Str) == "machines") = false := by simpa using wm_
  simp [wf, List.lookup, e]
theorem put0 (m : V) : putF "machines" m [] = [(("machines" : Str), m)] := rfl
theorem put1 (m wa : V) : putF "wires" wa [(("machines" : Str), m)] = wf m wa := by
  show (if ("machines" : Str) = "wires" then _ else (("machines" : Str), m) :: putF "wires" wa []) = _
  rw [if_neg mw_]; rfl
theorem put_m (m n wa : V) : putF "machines" n (wf m wa) = wf n wa := by
  show (if ("machines" : Str) = "machines" then (("machines" : Str), n) :: [(("wires" : Str), wa)] else _) = _
  rw [if_pos rfl]; rfl
theorem put_w (m wa wb : V) : putF "wires" wb (wf m wa) = wf m wb := by
  show (if ("machines" : Str) = "wires" then _ else (("machines" : Str), m) :: (if ("wires" : Str) = "wires" then (("wires" : Str), wb) :: [] else _)) = _
  rw [if_neg mw_, if_pos rfl]; rfl
/-- a web stands at x -/
def WebAt (K : PySem.W.Frag) (C : Addr) (H : Hp) (x : Addr) (m : Int) (ws : List (Int × Int)) : Prop := ∃ (dx wa : Addr), H x = some (.ins C dx (wf (.int m) (.ref wa))) ∧ Dp K H (.ref wa) (dW ws)
theorem WebAt.g {C x hd c : Addr} {m : Int} {ws : List (Int × Int)} {H H' : Hp} (h : WebAt K C H x m ws) (g : G (some (hd, c)) H H') (hh : Hand H hd c) : WebAt K C H' x m ws := by
  obtain ⟨dx, wa, h1, h2⟩ := h
  exact ⟨dx, wa, g.keep x _ (off_ins hh h1) h1, dp_t g.tups _ _ (nl_dW ws) h2⟩
theorem WebAt.n {C x : Addr} {m : Int} {ws : List (Int × Int)} {H H' : Hp} (h : WebAt K C H x m ws) (g : G none H H') : WebAt K C H' x m ws := by
  obtain ⟨dx, wa, h1, h2⟩ := h
  exact ⟨dx, wa, g.all x _ h1, dp_t g.tups _ _ (nl_dW ws) h2⟩
theorem r_fld {o : Addr} {C dx : Addr} {fs : List (Str × V)} {v : V} {f : Str} {H : Hp} {F : V → Prop} (e : H o = some (.ins C dx fs)) (c : Cls K C) (n : NoAttr K C f) (l : fs.lookup f = some v) (q : F v) :
    ∃ a C dx fs v, V.ref o = .ref a ∧ H a = some (.ins C dx fs) ∧ Cls K C ∧ NoAttr K C f ∧ fs.lookup f = some v ∧ F v := ⟨o, C, dx, fs, v, rfl, e, c, n, l, q⟩
theorem r_sfld {o : Addr} {C dx : Addr} {fs : List (Str × V)} {F : Hp → Prop} {f : Str} {y : V} {H : Hp} (e : H o = some (.ins C dx fs)) (c : Cls K C) (n : NoAttr K C f) (l : fs.length < 1000) (q : F (upd H o (.ins C dx (putF f y fs)))) :
    ∃ a C dx fs, V.ref o = .ref a ∧ H a = some (.ins C dx fs) ∧ Cls K C ∧ NoAttr K C f ∧ fs.length < 1000 ∧ F (upd H a (.ins C dx (putF f y fs))) := ⟨o, C, dx, fs, rfl, e, c, n, l, q⟩
/-- an instance of H1 changed: what else stands stands -/
theorem ts_updI {H : Hp} {x C dx : Addr} {fs : List (Str × V)} {u : HO} (h : H x = some (.ins C dx fs)) : Ts H (upd H x u) := fun a xs e => by
  rcases e with e | ⟨ob, e⟩
  · exact .inl (by rw [upd_ne (ne_of e h (by intro z; cases z))]; exact e)
  · exact .inr ⟨ob, by rw [upd_ne (ne_of e h (by intro z; cases z))]; exact e⟩
def sp_Web_init (K : PySem.W.Frag) (C : Addr) : Sp := fun vs H Q _ => ∃ (x dx : Addr) (m : Int) (p : Addr) (ws : List (Int × Int)), vs = [.ref x, .int m, .ref p] ∧ H x = some (.ins C dx []) ∧ Dp K H (.ref p) (dW ws) ∧ IsWeb m ws ∧
  ∀ H', (∀ b u, b ≠ x → H b = some u → H' b = some u) → Ts H H' → H' x = some (.ins C dx (wf (.int m) (.ref p))) → Q .non H'
theorem ok_Web_init (T : Txt K mg a) : FnOk P w K mg base CX0 7 a.f_Web_init a.d_Web_init P_Web_init (sp_Web_init K a.c_Web) := by
  refine T.F_Web_init.ok sc_Web_init (fun vs H Q E h => by obtain ⟨x, dx, m, p, ws, rfl, _⟩ := h; rfl) (fun cdv A outer s H vs Q E hr h => ?_)
  obtain ⟨x, dx, m, p, ws, rfl, hxi, hx, hw, k⟩ := h
  have G_is_between : FnOk P w K mg base CX0 2 a.f_is_between a.d_is_between P_is_between sp_is_between := ok_is_between T
  have G_first_wrong_wire : FnOk P w K mg base CX0 6 a.f_first_wrong_wire a.d_first_wrong_wire P_first_wrong_wire (sp_first_wrong_wire K) := ok_first_wrong_wire T
  obtain ⟨p', xs, ep, hxs, hds⟩ := dp_tup hx
  cases ep
  refine ⟨_, (pss_cons (ps_if (pt_not (pt_val (pe_call (G_is_between) (hr.mono (by omega)) rfl T.m_is_between T.F_is_between.kp T.b_is_between .nil pass0 (pa_cons pe_int (pa_cons (pe_glob (v := .int 7) rfl T.m_MOST_MACHINES ⟨_, rfl⟩) (pa_cons (pv 1) pa_nil))))))
    pss_never
    pss_nil)
  (pss_cons (ps_if (pt_not (pt_val (pe_callB call_isi (by rfl) T.n_isinstance (by decide +kernel) (pa_cons (pv 2) (pa_cons (pe_bltn (v := .ty "tuple") (u := .type "tuple") rfl T.n_tuple (by decide +kernel) rfl) pa_nil)))))
    pss_never
    pss_nil)
  (pss_cons (ps_set (i := 3) sc_Web_init.nd rfl (Or.inl rfl) (pe_call (G_first_wrong_wire) (hr.mono (by omega)) rfl T.m_first_wrong_wire T.F_first_wrong_wire.kp T.b_first_wrong_wire .nil pass0 (pa_cons (pv 1) (pa_cons (pv 2) pa_nil))))
  (pss_cons (ps_if (pt_cmp (pc_notN (pv 3)))
    pss_never
    pss_nil)
  (pss_cons (ps_fld (pv 0) (pv 1) rfl)
  (pss_one (ps_fld (pv 0) (pv 2) rfl))))))), ?_⟩
  walk_at "ws"
  refine ⟨_, _, _, rfl, ?_⟩
  have e1 : (decide ((1 : Int) ≤ m) && decide (m ≤ 7)) = true := by
    have := hw.lo
    have := hw.hi
    simp; omega
  rw [e1]
  walk_at "ws"
  refine r_isi (tyx_tup hxs) ki_tt ?_
  walk_at "ws"
  refine ⟨m, p, ws, rfl, hx, hw, fun H1 g1 => ?_⟩
  walk_at "ws"
  refine w_iteN (by decide) ?_
  walk_at "ws"
  have h1 := g1.all _ _ hxi
  refine r_sfld h1 T.cl_Web T.na_Web_machines (by show 0 < 1000; decide) ?_
  walk_at "ws"
  refine r_sfld upd_same T.cl_Web T.na_Web_wires (by rw [put0]; show 1 < 1000; decide) ?_
  rw [put0, put1]
  refine k _ (fun b u n e => ?_) ?_ upd_same
  · rw [upd_ne n, upd_ne n]; exact g1.all _ _ e
  · exact (g1.tups.trans (ts_updI h1)).trans (ts_updI upd_same)

end
end Mine
/-! ## K5 -/


namespace Mine
section
variable {P : Program} {w : World} {K : PySem.W.Frag} {mg : Str → Option Value} {base : Heap} {a : Ads}

/-! ### the hand of draws -/
def sp__law_hand (K : PySem.W.Frag) : Sp := fun vs H Q _ => ∃ (s : Addr) (ns : List Int), vs = [.ref s] ∧ SqL K H s (ns.map V.int) ∧ ns.length ≤ 63 ∧ ∀ hd c H', G none H H' → Hand H' hd c → Q (.ref hd) H'
theorem ok__law_hand (T : Txt K mg a) : FnOk P w K mg base CX0 1 a.f__law_hand a.d__law_hand P__law_hand (sp__law_hand K) := by
  refine T.F__law_hand.ok sc__law_hand (fun vs H Q E h => by obtain ⟨s, ns, rfl, _⟩ := h; rfl) (fun cdv A outer s0 H vs Q E hr h => ?_)
  obtain ⟨s, ns, rfl, hs, hl, k⟩ := h
  refine ⟨_, (pss_cons (ps_setLc (i := 1) (own := [("_law_cell", 2)]) (g := (gName 2)) (tt := tYes)  rfl sc__law_hand.nd rfl rfl (sw_true rfl rfl rfl (by decide +kernel)) (pi_list (pe_slice sl_list (pv 0) po_none (po_some pe_int))) (blkOk_by (N := N__law_hand) (sc := defScope s__law_hand) (by decide +kernel)) (fun _ _ _ _ _ => (pg_name (i := 2) sc__law_hand.nd rfl (by first | exact Or.inl rfl | exact Or.inr rfl))) (fun _ _ _ _ _ => pts_nil) (fun _ _ _ _ _ => (pe_callB call_abs (by rfl) T.n_abs (by decide +kernel) (pa_cons (pe_callTy call_int1 (by rfl) T.n_int (by decide +kernel) (pa_cons (pv 2) pa_nil)) pa_nil))))
  (pss_one (ps_ret (pe_lstN (pa_cons (pv 1) (pa_cons pe_int (pa_cons pe_int (pa_cons (pe_op op_add pe_int (pe_callB call_len_seq (by rfl) T.n_len (by decide +kernel) (pa_cons (pv 1) pa_nil))) (pa_cons pe_int pa_nil))))))))), ?_⟩
  walk_at "ws"
  refine ⟨s, _, rfl, hs, fun p hp => ?_⟩
  obtain ⟨ms, hms⟩ : ∃ ms : List Int, cutV (ns.map V.int) none (some 63) = ms.map V.int := ints_of fun v hv => by
    obtain ⟨n, _, e⟩ := List.mem_map.mp (mem_cutV hv)
    exact ⟨n, e.symm⟩
  have hz : ms.length ≤ 63 := by
    have e := cutV_length (ns.map V.int) none (some 63)
    rw [hms, List.length_map, List.length_map] at e
    omega
  rw [hms]
  have g1 : G none H (upd H p (.lst (ms.map V.int))) := G.alloc hp
  have h1 : upd H p (.lst (ms.map V.int)) p = some (.lst (ms.map V.int)) := upd_same
  generalize upd H p (.lst (ms.map V.int)) = H1 at g1 h1 ⊢
  walk_at "ws"
  refine i_list (SqL.of h1) ?_
  intro D hD
  refine lc_pure (K := K) (o := none) walk_list (by rw [List.length_map]; omega) hD (fun _ e => nomatch e) (fun i => ms[i]?.map fun n => .int (if n < 0 then -n else n)) (fun H' g => SqL.of (g.all _ _ h1)) ?_ ?_
  · rintro i x H2 H3 hi g ⟨rfl, hx1⟩ Qy Qn ky kn
    obtain ⟨n, hn, rfl⟩ : ∃ n, ms[i]? = some n ∧ V.int n = x := by
      rw [List.getElem?_map] at hx1; exact Option.map_eq_some_iff.mp hx1
    walk_at "ws"
    refine ⟨rfl, ?_⟩
    walk_at "ws"
    refine .inl ⟨_, rfl, ?_⟩
    walk_at "ws"
    exact ⟨_, rfl, ky _ _ _ G.refl (.int _) rfl (by rw [hn]; rfl)⟩
  · intro xs H' g hD' hds _
    rw [List.length_map, filterMap_range_map] at hds
    obtain ⟨cs, rfl⟩ : ∃ cs : List Int, xs = cs.map V.int := ⟨_, DpAll.of_ints (ns := ms.map fun n => if n < 0 then -n else n) (by rw [List.map_map]; exact hds)⟩
    have g2 := g1.trans g
    walk_at "ws"
    refine ⟨D, _, rfl, .inl (SqL.of hD'), ?_⟩
    walk_at "ws"
    refine ⟨sz (by simp), fun q H3 hq g3 h3 => ?_⟩
    exact k q D _ (g2.trans (g3 none)) ⟨ne_of_none hD' hq, ⟨cs, (g3 none).all _ _ hD'⟩, _, _, _, _, h3, Int.le_refl _⟩

def sp__law_draw : Sp := fun vs H Q _ => ∃ (hd c : Addr) (n : Int), vs = [.ref hd, .int n] ∧ Hand H hd c ∧ 0 < n ∧ n ≤ 100000 ∧ ∀ r H', 0 ≤ r → r < n → G (some (hd, c)) H H' → Hand H' hd c → Q (.int r) H'
theorem st5 {x0 x1 x2 x3 x4 v : V} {j : Nat} {hd : Addr} {z : Int} {H : Hp} {F : Hp → Prop} (h : H hd = some (.lst [x0, x1, x2, x3, x4])) (e : ixN 5 z = some j) (q : F (upd H hd (.lst (([x0, x1, x2, x3, x4] : List V).set j v)))) : rSetL (.ref hd) (.int z) v H F := ⟨hd, _, z, j, rfl, rfl, h, e, q⟩
theorem ok__law_draw (T : Txt K mg a) : FnOk P w K mg base CX0 1 a.f__law_draw a.d__law_draw P__law_draw sp__law_draw := by
  refine T.F__law_draw.ok sc__law_draw (fun vs H Q E h => by obtain ⟨hd, c, n, rfl, _⟩ := h; rfl) (fun cdv A outer s0 H vs Q E hr h => ?_)
  obtain ⟨hd, c, n, rfl, hh, n0, n1, k⟩ := h
  have hh' := hh
  obtain ⟨nc, ⟨ns, hc⟩, i, b, m, z, h, hi⟩ := hh'
  refine ⟨_, (pss_cons (ps_if (L2.PW.pt (pw_and (pt_cmpR op_eq (pe_ix ix_list (pv 0) pe_int (fun _ _ => rfl)) pe_int (nomark _)) (pw_and1 (pt_cmpR op_lt (pe_ix ix_list (pv 0) pe_int (fun _ _ => rfl)) (pe_callB call_len_seq (by rfl) T.n_len (by decide +kernel) (pa_cons (pe_ix ix_list (pv 0) pe_int (fun _ _ => rfl)) pa_nil)) (nomark _)))))
    (pss_cons (ps_set (i := 2) sc__law_draw.nd rfl (Or.inl rfl) (pe_ix ix_list (pe_ix ix_list (pv 0) pe_int (fun _ _ => rfl)) (pe_ix ix_list (pv 0) pe_int (fun _ _ => rfl)) (fun _ _ => rfl)))
  (pss_cons (ps_asg (pe_op op_add (pe_ix ix_list (pv 0) pe_int (fun _ _ => rfl)) pe_int) (pg_sub (pv 0) pe_int set_list))
  (pss_cons (ps_asg (pe_op op_mod (pe_callTy call_int1 (by rfl) T.n_int (by decide +kernel) (pa_cons (pe_op op_add (pe_op op_add (pe_op op_mul (pe_ix ix_list (pv 0) pe_int (fun _ _ => rfl)) pe_int) (pv 2)) pe_int) pa_nil)) pe_int) (pg_sub (pv 0) pe_int set_list))
  (pss_one (ps_if (pt_cmpR op_ge (pv 2) (pe_op op_pow pe_int pe_int) (nomark _))
    (pss_one (ps_asg (pv 2) (pg_sub (pv 0) pe_int set_list)))
    pss_nil)))))
    pss_nil)
  (pss_cons (ps_if (pt_cmpR op_gt (pe_ix ix_list (pv 0) pe_int (fun _ _ => rfl)) pe_int (nomark _))
    (pss_cons (ps_set (i := 3) sc__law_draw.nd rfl (Or.inl rfl) (pe_op op_mod (pe_callTy call_int1 (by rfl) T.n_int (by decide +kernel) (pa_cons (pe_ix ix_list (pv 0) pe_int (fun _ _ => rfl)) pa_nil)) (pv 1)))
  (pss_cons (ps_asg (pe_op op_fdiv (pe_ix ix_list (pv 0) pe_int (fun _ _ => rfl)) (pv 1)) (pg_sub (pv 0) pe_int set_list))
  (pss_one (ps_ret (pv 3)))))
    pss_nil)
  (pss_cons (ps_asg (pe_op op_add (pe_ix ix_list (pv 0) pe_int (fun _ _ => rfl)) pe_int) (pg_sub (pv 0) pe_int set_list))
  (pss_cons (ps_set (i := 4) sc__law_draw.nd rfl (Or.inl rfl) (pe_op op_mod (pe_callTy call_int1 (by rfl) T.n_int (by decide +kernel) (pa_cons (pe_op op_mul (pe_callTy call_int1 (by rfl) T.n_int (by decide +kernel) (pa_cons (pe_op op_add (pe_ix ix_list (pv 0) pe_int (fun _ _ => rfl)) (pe_op op_mul pe_int (pe_ix ix_list (pv 0) pe_int (fun _ _ => rfl)))) pa_nil)) pe_int) pa_nil)) pe_int))
  (pss_cons (ps_set (i := 4) sc__law_draw.nd rfl (Or.inl rfl) (pe_op op_mod (pe_callTy call_int1 (by rfl) T.n_int (by decide +kernel) (pa_cons (pe_op op_mul (pv 4) (pe_op op_add (pe_op op_fdiv (pv 4) pe_int) pe_int)) pa_nil)) pe_int))
  (pss_cons (ps_set (i := 4) sc__law_draw.nd rfl (Or.inl rfl) (pe_op op_mod (pe_callTy call_int1 (by rfl) T.n_int (by decide +kernel) (pa_cons (pe_op op_mul (pv 4) (pe_op op_add (pe_op op_fdiv (pv 4) pe_int) pe_int)) pa_nil)) pe_int))
  (pss_one (ps_ret (pe_op op_mod (pe_callTy call_int1 (by rfl) T.n_int (by decide +kernel) (pa_cons (pe_op op_fdiv (pv 4) pe_int) pa_nil)) (pv 1)))))))))), ?_⟩
  refine w_seqM (fun σ H1 => ∃ (i b m z : Int) (x : Option V), σ = [some (.ref hd), some (.int n), x, none, none] ∧ (∀ a, a ≠ hd → H1 a = H a) ∧ H1 hd = some (.lst [.ref c, .int i, .int b, .int m, .int z]) ∧ 0 ≤ i) (fun N kN => ?_) ?_
  · walk_at "ws"
    refine r_ixL (SqL.of h) (v := .int b) rfl ?_
    walk_at "ws"
    refine w_ite (fun e => ?_) (fun e => ?_)
    · walk_at "ws"
      refine r_ixL (SqL.of h) (v := .int i) rfl ?_
      walk_at "ws"
      refine r_ixL (SqL.of h) (v := .ref c) rfl ?_
      walk_at "ws"
      refine ⟨c, _, rfl, .inl (SqL.of hc), ?_⟩
      walk_at "ws"
      refine w_ite (fun e => ?_) (fun e => ?_)
      · have hlt : i < ns.length := by
          have := of_decide_eq_true e
          rw [List.length_map] at this
          exact this
        obtain ⟨cell, hcell⟩ : ∃ cell, ns[i.toNat]? = some cell := ⟨_, List.getElem?_eq_getElem (by omega)⟩
        walk_at "ws"
        refine r_ixL (SqL.of h) (v := .ref c) rfl ?_
        walk_at "ws"
        refine r_ixL (SqL.of h) (v := .int i) rfl ?_
        refine r_ixL (SqL.of hc) (v := .int cell) (at_of (j := i.toNat) (by omega) (by rw [List.getElem?_map, hcell]; rfl)) ?_
        walk_at "ws"
        refine r_ixL (SqL.of h) (v := .int i) rfl ?_
        walk_at "ws"
        refine st5 (j := 1) h rfl ?_
        walk_at "ws"
        refine r_ixL (SqL.of upd_same) (v := .int m) rfl ?_
        walk_at "ws"
        refine r_I (.inr ⟨by decide, by decide⟩) ?_
        walk_at "ws"
        refine .inl ⟨_, rfl, ?_⟩
        walk_at "ws"
        refine r_I (by decide) ?_
        walk_at "ws"
        refine st5 (j := 3) upd_same rfl ?_
        walk_at "ws"
        refine r_I ⟨by decide, by decide, by decide⟩ ?_
        walk_at "ws"
        refine w_ite (fun e => ?_) (fun e => ?_)
        · walk_at "ws"
          refine st5 (j := 2) upd_same rfl ?_
          refine kN _ _ ⟨_, _, _, _, _, rfl, fun a na => ?_, upd_same, by omega⟩
          rw [upd_ne na, upd_ne na, upd_ne na]
        · walk_at "ws"
          refine kN _ _ ⟨_, _, _, _, _, rfl, fun a na => ?_, upd_same, by omega⟩
          rw [upd_ne na, upd_ne na]
      · walk_at "ws"
        exact kN _ _ ⟨i, b, m, z, none, rfl, fun _ _ => rfl, h, hi⟩
    · walk_at "ws"
      exact kN _ _ ⟨i, b, m, z, none, rfl, fun _ _ => rfl, h, hi⟩
  · clear h hi
    rintro σ H1 ⟨i, b, m, z, x, rfl, hE, h, hi⟩
    walk_at "ws"
    refine r_ixL (SqL.of h) (v := .int b) rfl ?_
    walk_at "ws"
    refine w_ite (fun e => ?_) (fun e => ?_)
    · walk_at "ws"
      refine r_ixL (SqL.of h) (v := .int b) rfl ?_
      walk_at "ws"
      refine .inl ⟨_, rfl, ?_⟩
      walk_at "ws"
      refine r_I n0 ?_
      walk_at "ws"
      refine r_ixL (SqL.of h) (v := .int b) rfl ?_
      walk_at "ws"
      refine r_I ⟨n0, by omega⟩ ?_
      walk_at "ws"
      refine st5 (j := 2) h rfl ?_
      walk_at "ws"
      obtain ⟨g, hh2⟩ := G.at_hd hh (H' := upd H1 hd (.lst (([.ref c, .int i, .int b, .int m, .int z] : List V).set 2 (.int (b / n))))) (fun a na => by rw [upd_ne na]; exact hE a na) upd_same hi
      exact k _ _ (Int.emod_nonneg _ (by omega)) (Int.emod_lt_of_pos _ n0) g hh2
    · walk_at "ws"
      refine r_ixL (SqL.of h) (v := .int z) rfl ?_
      walk_at "ws"
      refine st5 (j := 4) h rfl ?_
      walk_at "ws"
      refine r_ixL (SqL.of upd_same) (v := .int m) rfl ?_
      walk_at "ws"
      refine r_ixL (SqL.of upd_same) (v := .int (z + 1)) rfl ?_
      refine r_I (.inl ⟨by decide, by decide⟩) ?_
      walk_at "ws"
      refine .inl ⟨_, rfl, ?_⟩
      walk_at "ws"
      refine r_I (.inr ⟨by decide, by decide⟩) ?_
      walk_at "ws"
      refine .inl ⟨_, rfl, ?_⟩
      walk_at "ws"
      refine r_I (by decide) ?_
      generalize e1 : (_ : Int) % 2147483647 = u1
      have b1 : 0 ≤ u1 ∧ u1 < 2147483647 := by omega
      walk_at "ws"
      refine r_I ⟨by decide, by decide⟩ ?_
      walk_at "ws"
      refine r_I (.inl ⟨by omega, by omega⟩) ?_
      walk_at "ws"
      refine .inl ⟨_, rfl, ?_⟩
      walk_at "ws"
      refine r_I (by decide) ?_
      generalize e2 : (_ : Int) % 2147483647 = u2
      have b2 : 0 ≤ u2 ∧ u2 < 2147483647 := by omega
      walk_at "ws"
      refine r_I ⟨by decide, by decide⟩ ?_
      walk_at "ws"
      refine r_I (.inl ⟨by omega, by omega⟩) ?_
      walk_at "ws"
      refine .inl ⟨_, rfl, ?_⟩
      walk_at "ws"
      refine r_I (by decide) ?_
      walk_at "ws"
      refine r_I ⟨by decide, by decide⟩ ?_
      walk_at "ws"
      refine .inl ⟨_, rfl, ?_⟩
      walk_at "ws"
      refine r_I n0 ?_
      obtain ⟨g, hh2⟩ := G.at_hd hh (H' := upd H1 hd (.lst (([.ref c, .int i, .int b, .int m, .int z] : List V).set 4 (.int (z + 1))))) (fun a na => by rw [upd_ne na]; exact hE a na) upd_same hi
      exact k _ _ (Int.emod_nonneg _ (by omega)) (Int.emod_lt_of_pos _ n0) g hh2

end
end Mine
/-! ## K6 -/


namespace Mine
section
variable {P : Program} {w : World} {K : PySem.W.Frag} {mg : Str → Option Value} {base : Heap} {a : Ads}

/-! ### _law_is of two that are alike -/
theorem dp_n {H H' : Hp} (g : G none H H') : (∀ (d : PyData) (v : V), Dp K H v d → Dp K H' v d) ∧ (∀ (ds : List PyData) (vs : List V), DpAll K H vs ds → DpAll K H' vs ds) := by
  have rd : ∀ {a u}, Rd H a u → Rd H' a u := fun h => h.elim (fun h => .inl (g.all _ _ h)) fun ⟨ob, h⟩ => .inr ⟨ob, g.all _ _ h⟩
  have sl : ∀ {a xs}, SqL K H a xs → SqL K H' a xs := fun h => h.elim (fun h => .inl (rd h)) .inr
  constructor
  · intro d v h
    refine Dp.rec (motive_1 := fun v d _ => Dp K H' v d) (motive_2 := fun vs ds _ => DpAll K H' vs ds) .non .bl .int .str ?_ ?_ ?_ ?_ h
    · intro a xs ds h1 _ h2; exact .lst (sl h1) h2
    · intro a xs ds h1 _ h2; exact .tup (sqT_t g.tups h1) h2
    · exact .nil
    · intro v vs d ds _ _ h1 h2; exact .cons h1 h2
  · intro ds vs h
    refine DpAll.rec (motive_1 := fun v d _ => Dp K H' v d) (motive_2 := fun vs ds _ => DpAll K H' vs ds) .non .bl .int .str ?_ ?_ ?_ ?_ h
    · intro a xs ds h1 _ h2; exact .lst (sl h1) h2
    · intro a xs ds h1 _ h2; exact .tup (sqT_t g.tups h1) h2
    · exact .nil
    · intro v vs d ds _ _ h1 h2; exact .cons h1 h2
theorem sqL_n {H H' : Hp} (g : G none H H') {p : Addr} {xs : List V} (h : SqL K H p xs) : SqL K H' p xs := by
  rcases h with (h | ⟨o, h⟩) | h
  · exact .inl (.inl (g.all _ _ h))
  · exact .inl (.inr ⟨o, g.all _ _ h⟩)
  · exact .inr h
theorem tyx_lst {H : Hp} {p : Addr} {xs : List V} (h : SqL K H p xs) : TyX K H (.ref p) (.type "list") := by
  rcases h with (h | ⟨o, h⟩) | ⟨o, its, n, h1, h2, _⟩
  · exact .base (.lst h)
  · exact .base (.frz h)
  · exact .kList h1 h2
def tyN : PyData → String
  | .none => "NoneType"
  | .bool _ => "bool"
  | .int _ => "int"
  | .str _ => "str"
  | .list _ => "list"
  | .tuple _ => "tuple"
  | .dict _ => "dict"
theorem ty_of {H : Hp} {v : V} {d : PyData} (h : Dp K H v d) : TyX K H v (.type (tyN d)) := by
  cases h with
  | non => exact .base .non
  | bl b => exact .base (.bl b)
  | int i => exact .base (.int i)
  | str x => exact .base (.str x)
  | lst h _ => exact tyx_lst h
  | tup h _ => exact tyx_tup h
def isTup : PyData → Bool | .tuple _ => true | _ => false
def isLst : PyData → Bool | .list _ => true | _ => false
def isBool : PyData → Bool | .bool _ => true | _ => false
theorem ki_tup (d : PyData) : PySem.W.kitOne K (.type (tyN d)) (.type "tuple") = some (isTup d) := by
  cases d with
  | none => exact kit_ty (a := "NoneType") (b := "tuple") (r := false) (by decide +kernel)
  | bool _ => exact kit_ty (a := "bool") (b := "tuple") (r := false) (by decide +kernel)
  | int _ => exact kit_ty (a := "int") (b := "tuple") (r := false) (by decide +kernel)
  | str _ => exact kit_ty (a := "str") (b := "tuple") (r := false) (by decide +kernel)
  | list _ => exact kit_ty (a := "list") (b := "tuple") (r := false) (by decide +kernel)
  | tuple _ => exact kit_ty (a := "tuple") (b := "tuple") (r := true) (by decide +kernel)
  | dict _ => exact kit_ty (a := "dict") (b := "tuple") (r := false) (by decide +kernel)
theorem ki_lst (d : PyData) : PySem.W.kitOne K (.type (tyN d)) (.type "list") = some (isLst d) := by
  cases d with
  | none => exact kit_ty (a := "NoneType") (b := "list") (r := false) (by decide +kernel)
  | bool _ => exact kit_ty (a := "bool") (b := "list") (r := false) (by decide +kernel)
  | int _ => exact kit_ty (a := "int") (b := "list") (r := false) (by decide +kernel)
  | str _ => exact kit_ty (a := "str") (b := "list") (r := false) (by decide +kernel)
  | list _ => exact kit_ty (a := "list") (b := "list") (r := true) (by decide +kernel)
  | tuple _ => exact kit_ty (a := "tuple") (b := "list") (r := false) (by decide +kernel)
  | dict _ => exact kit_ty (a := "dict") (b := "list") (r := false) (by decide +kernel)
theorem ki_bool (d : PyData) : PySem.W.kitOne K (.type (tyN d)) (.type "bool") = some (isBool d) := by
  cases d with
  | none => exact kit_ty (a := "NoneType") (b := "bool") (r := false) (by decide +kernel)
  | bool _ => exact kit_ty (a := "bool") (b := "bool") (r := true) (by decide +kernel)
  | int _ => exact kit_ty (a := "int") (b := "bool") (r := false) (by decide +kernel)
  | str _ => exact kit_ty (a := "str") (b := "bool") (r := false) (by decide +kernel)
  | list _ => exact kit_ty (a := "list") (b := "bool") (r := false) (by decide +kernel)
  | tuple _ => exact kit_ty (a := "tuple") (b := "bool") (r := false) (by decide +kernel)
  | dict _ => exact kit_ty (a := "dict") (b := "bool") (r := false) (by decide +kernel)
theorem ki_tl (d : PyData) : PySem.W.kitAny K (.type (tyN d)) [.type "tuple", .type "list"] = some (isTup d || isLst d) := by
  refine kitAny_cons (ki_tup d) (fun e => ?_) fun e => by rw [e]; rfl
  refine kitAny_cons (ki_lst d) (fun e2 => ?_) fun e2 => by rw [e, e2]; rfl
  rw [e, e2]; rfl
theorem r_isiT {H : Hp} {v : V} {d : PyData} {tp : Addr} {Q : VK} (h : H tp = some (.tup [.ty "tuple", .ty "list"])) (hd : Dp K H v d) (q : Q (.bl (isTup d || isLst d)) H) : rIsiT K [v, .ref tp] H Q :=
  ⟨v, tp, [.ty "tuple", .ty "list"], _, [.type "tuple", .type "list"], _, rfl, h, .cons (.ty "tuple") (.cons (.ty "list") .nil), ty_of hd, ki_tl d, q⟩
def scal1 : PyData → Prop
  | .none => True
  | .bool _ => True
  | .int _ => True
  | .str x => PyData.strOk x = true
  | _ => False
def okd : Nat → PyData → Prop
  | 0, d => scal1 d
  | n + 1, d => scal1 d ∨ ∃ ds, (d = .tuple ds ∨ d = .list ds) ∧ ds.length ≤ 100000 ∧ ∀ e ∈ ds, okd n e
theorem scal1_tl {d : PyData} (h : scal1 d) : (isTup d || isLst d) = false := by cases d <;> first | rfl | exact h.elim
theorem scal1_eqv {d : PyData} (h : scal1 d) : PyData.eqv d d = true := by
  cases d with
  | none => rfl
  | bool b => cases b <;> rfl
  | int i => simp [PyData.eqv]
  | str x => simp [PyData.eqv]
  | list _ => exact h.elim
  | tuple _ => exact h.elim
  | dict _ => exact h.elim
theorem scal1_sh {d : PyData} (h : scal1 d) : SeqAt.shaped d = true := by
  cases d <;> first | exact h.elim | (simp [SeqAt.shaped, PyData.canLay0, PyData.depth]; done) | (simp [SeqAt.shaped, PyData.canLay0, PyData.depth]; exact h)
theorem walk_zipT {p q : Addr} {xs ys : List V} {n : Nat} (hn : n = min xs.length ys.length) : Walk (RZ.ItzT K p q) n (fun H => SqT K H p xs ∧ SqT K H q ys) (YPair (fun i => xs[i]?) (fun i => ys[i]?)) := by
  subst hn
  refine ⟨fun i _ hi h => ?_, fun _ h => ⟨xs, ys, h.1, h.2, by omega⟩, fun i H v H' _ h y => ?_⟩
  · have h1 : i < xs.length := by omega
    have h2 : i < ys.length := by omega
    exact ⟨xs, ys, xs[i], ys[i], h.1, h.2, by simp [h1], by simp [h2]⟩
  · obtain ⟨T, x, z, h1, h2, h3, h4, h5⟩ := y
    exact ⟨T, x, z, h1, h2, h3, h4 xs h.1, h5 ys h.2⟩
theorem bools_true {H : Hp} {xs : List V} {n : Nat} (h : DpAll K H xs ((List.range n).filterMap fun _ => some (PyData.bool true))) : ∃ bs : List Bool, xs = bs.map V.bl ∧ bs.all id = true := by
  generalize List.range n = l at h
  induction l generalizing xs with
  | nil => cases h; exact ⟨[], rfl, rfl⟩
  | cons z l ih =>
    cases h with
    | cons h t =>
      obtain ⟨bs, rfl, e⟩ := ih t
      cases h
      exact ⟨true :: bs, rfl, by simpa using e⟩
def sp__law_is (K : PySem.W.Frag) (n : Nat) : Sp := fun vs H Q _ => ∃ (v u : V) (d : PyData), vs = [v, u] ∧ okd n d ∧ Dp K H v d ∧ Dp K H u d ∧ ∀ H', G none H H' → Q (.bl true) H'
theorem ok__law_is (T : Txt K mg a) : ∀ n : Nat, FnOk P w K mg base CX0 (n + 1) a.f__law_is a.d__law_is P__law_is (sp__law_is K n)
  | 0 => by
    refine T.F__law_is.ok sc__law_is (fun vs H Q E h => by obtain ⟨v, u, d, rfl, _⟩ := h; rfl) (fun cdv A outer s H vs Q E hr h => ?_)
    obtain ⟨v, u, d, rfl, od, hv, hu, k⟩ := h
    have od : scal1 d := od
    refine ⟨_, (pss_cons (ps_if (pt_val (pe_callB call_isiT (by rfl) T.n_isinstance (by decide +kernel) (pa_cons (pv 1) (pa_cons (pe_tupN (pa_cons (pe_bltn (v := .ty "tuple") (u := .type "tuple") rfl T.n_tuple (by decide +kernel) rfl) (pa_cons (pe_bltn (v := .ty "list") (u := .type "list") rfl T.n_list (by decide +kernel) rfl) pa_nil))) pa_nil)))) pss_never pss_nil) (pss_one (ps_ret (pe_and (pe_cmpR op_eq (pe_callB call_isi (by rfl) T.n_isinstance (by decide +kernel) (pa_cons (pv 0) (pa_cons (pe_bltn (v := .ty "bool") (u := .type "bool") rfl T.n_bool (by decide +kernel) rfl) pa_nil))) (pe_callB call_isi (by rfl) T.n_isinstance (by decide +kernel) (pa_cons (pv 1) (pa_cons (pe_bltn (v := .ty "bool") (u := .type "bool") rfl T.n_bool (by decide +kernel) rfl) pa_nil))) (nomark _)) (pe_one (pe_cmpR (op_eqD hr.units) (pv 0) (pv 1) (nomark _))))))), ?_⟩
    walk_at "ws"
    refine ⟨sz (by simp), fun p H1 hp g1 h1 => ?_⟩
    have g1 := g1 none
    walk_at "ws"
    refine r_isiT h1 ((dp_n g1).1 _ _ hu) ?_
    rw [scal1_tl od]
    walk_at "ws"
    refine r_isi (ty_of ((dp_n g1).1 _ _ hv)) (ki_bool d) ?_
    walk_at "ws"
    refine r_isi (ty_of ((dp_n g1).1 _ _ hu)) (ki_bool d) ?_
    walk_at "ws"
    refine w_iteE (by simp) ?_
    walk_at "ws"
    refine ⟨d, d, (dp_n g1).1 _ _ hv, (dp_n g1).1 _ _ hu, scal1_sh od, scal1_sh od, ?_⟩
    rw [scal1_eqv od]
    exact k _ g1
  | n + 1 => by
    have ih : FnOk P w K mg base CX0 (n + 1) a.f__law_is a.d__law_is P__law_is (sp__law_is K n) := ok__law_is T n
    refine T.F__law_is.ok sc__law_is (fun vs H Q E h => by obtain ⟨v, u, d, rfl, _⟩ := h; rfl) (fun cdv A outer s H vs Q E hr h => ?_)
    obtain ⟨v, u, d, rfl, od, hv, hu, k⟩ := h
    refine ⟨_, (pss_cons (ps_if (pt_val (pe_callB call_isiT (by rfl) T.n_isinstance (by decide +kernel) (pa_cons (pv 1) (pa_cons (pe_tupN (pa_cons (pe_bltn (v := .ty "tuple") (u := .type "tuple") rfl T.n_tuple (by decide +kernel) rfl) (pa_cons (pe_bltn (v := .ty "list") (u := .type "list") rfl T.n_list (by decide +kernel) rfl) pa_nil))) pa_nil))))
    (pss_cons (ps_if (L2.PW.pt (pw_or (pt_cmpR op_ne (pe_callB call_isi (by rfl) T.n_isinstance (by decide +kernel) (pa_cons (pv 0) (pa_cons (pe_bltn (v := .ty "tuple") (u := .type "tuple") rfl T.n_tuple (by decide +kernel) rfl) pa_nil))) (pe_callB call_isi (by rfl) T.n_isinstance (by decide +kernel) (pa_cons (pv 1) (pa_cons (pe_bltn (v := .ty "tuple") (u := .type "tuple") rfl T.n_tuple (by decide +kernel) rfl) pa_nil))) (nomark _)) (pw_or1 (pt_not (pt_val (pe_callB call_isiT (by rfl) T.n_isinstance (by decide +kernel) (pa_cons (pv 0) (pa_cons (pe_tupN (pa_cons (pe_bltn (v := .ty "tuple") (u := .type "tuple") rfl T.n_tuple (by decide +kernel) rfl) (pa_cons (pe_bltn (v := .ty "list") (u := .type "list") rfl T.n_list (by decide +kernel) rfl) pa_nil))) pa_nil))))))))
    (pss_one (ps_ret pe_bl))
    pss_nil)
  (pss_one (ps_ret (pe_and (pe_cmpR op_eq (pe_callB call_len_seq (by rfl) T.n_len (by decide +kernel) (pa_cons (pv 0) pa_nil)) (pe_callB call_len_seq (by rfl) T.n_len (by decide +kernel) (pa_cons (pv 1) pa_nil)) (nomark _)) (pe_one (pe_callB (cr_all rfl) (by rfl) T.n_all (by decide +kernel) (pa_cons (pe_lc (own := [("_law_one", 2), ("_law_two", 3)]) (g := (gTup K 2 (gCons (gName 2) (gCons (gName 3) gNil)))) (tt := tYes) rfl sc__law_is.nd (RZ.pi_zipA (by rfl) T.n_zip (pa_cons (pv 0) (pa_cons (pv 1) pa_nil))) (blkOk_by (N := N__law_is) (sc := defScope s__law_is) (by decide +kernel)) (fun _ _ _ _ _ => (pg_tup rfl (pgs_cons (pg_name (i := 2) sc__law_is.nd rfl (by first | exact Or.inl rfl | exact Or.inr rfl)) (pgs_cons (pg_name (i := 3) sc__law_is.nd rfl (by first | exact Or.inl rfl | exact Or.inr rfl)) pgs_nil)))) (fun _ _ _ _ _ => pts_nil) (fun _ _ _ _ _ => (pe_call ih (hr.mono (by omega)) rfl T.m__law_is T.F__law_is.kp T.b__law_is .nil pass0 (pa_cons (pv 2) (pa_cons (pv 3) pa_nil))))) pa_nil)))))))
    pss_nil)
  (pss_one (ps_ret (pe_and (pe_cmpR op_eq (pe_callB call_isi (by rfl) T.n_isinstance (by decide +kernel) (pa_cons (pv 0) (pa_cons (pe_bltn (v := .ty "bool") (u := .type "bool") rfl T.n_bool (by decide +kernel) rfl) pa_nil))) (pe_callB call_isi (by rfl) T.n_isinstance (by decide +kernel) (pa_cons (pv 1) (pa_cons (pe_bltn (v := .ty "bool") (u := .type "bool") rfl T.n_bool (by decide +kernel) rfl) pa_nil))) (nomark _)) (pe_one (pe_cmpR (op_eqD hr.units) (pv 0) (pv 1) (nomark _))))))), ?_⟩
    walk_at "ws"
    refine ⟨sz (by simp), fun p H1 hp g1 h1 => ?_⟩
    have g1 := g1 none
    walk_at "ws"
    refine r_isiT h1 ((dp_n g1).1 _ _ hu) ?_
    rcases od with od | ⟨ds, od, hz, hds⟩
    · rw [scal1_tl od]
      walk_at "ws"
      refine r_isi (ty_of ((dp_n g1).1 _ _ hv)) (ki_bool d) ?_
      walk_at "ws"
      refine r_isi (ty_of ((dp_n g1).1 _ _ hu)) (ki_bool d) ?_
      walk_at "ws"
      refine w_iteE (by simp) ?_
      walk_at "ws"
      refine ⟨d, d, (dp_n g1).1 _ _ hv, (dp_n g1).1 _ _ hu, scal1_sh od, scal1_sh od, ?_⟩
      rw [scal1_eqv od]
      exact k _ g1
    · have e1 : (isTup d || isLst d) = true := by rcases od with rfl | rfl <;> rfl
      rw [e1]
      have hv1 := (dp_n g1).1 _ _ hv
      have hu1 := (dp_n g1).1 _ _ hu
      walk_at "ws"
      refine r_isi (ty_of hv1) (ki_tup d) ?_
      walk_at "ws"
      refine r_isi (ty_of hu1) (ki_tup d) ?_
      walk_at "ws"
      refine w_iteN (by simp) ?_
      walk_at "ws"
      refine ⟨sz (by simp), fun p2 H2 hp2 g2 h2 => ?_⟩
      have g2 := g2 none
      have hv2 := (dp_n g2).1 _ _ hv1
      have hu2 := (dp_n g2).1 _ _ hu1
      have g12 := g1.trans g2
      walk_at "ws"
      refine r_isiT h2 hv2 ?_
      rw [e1]
      walk_at "ws"
      -- the turn of one pair
      have turn : ∀ (i : Nat) (xs ys : List V) (H3 H4 : Hp) (x : V) (Qy : V → Hp → Prop) (Qn : Hp → Prop), DpAll K H2 xs ds → DpAll K H2 ys ds → G none H2 H3 → YPair (fun i => xs[i]?) (fun i => ys[i]?) i H3 x H4 →
          (∀ y H5 e, G none H3 H5 → Dp K H5 y e → nl e = true → some (PyData.bool true) = some e → Qy y H5) →
          ∃ (t : Addr) (y z : V) (e : PyData), x = .ref t ∧ H4 t = some (.tup [y, z]) ∧ e ∈ ds ∧ Dp K H4 y e ∧ Dp K H4 z e ∧ G none H3 H4 := by
        intro i xs ys H3 H4 x Qy Qn hx hy g3 hY ky
        obtain ⟨t, y, z, rfl, ht, rfl, ey, ez⟩ := hY
        obtain ⟨e, he, hye⟩ := DpAll.get hx ey
        obtain ⟨e', he', hze⟩ := DpAll.get hy ez
        rw [he] at he'; cases he'
        have g4 : G none H3 (upd H3 t (.tup [y, z])) := G.alloc ht
        exact ⟨t, y, z, e, rfl, upd_same, List.mem_of_getElem? he, (dp_n (g3.trans g4)).1 _ _ hye, (dp_n (g3.trans g4)).1 _ _ hze, g4⟩
      rcases od with rfl | rfl
      · obtain ⟨p3, xs, rfl, hxs, hxd⟩ := dp_tup hv2
        obtain ⟨p4, ys, rfl, hys, hyd⟩ := dp_tup hu2
        walk_at "ws"
        refine ⟨p3, xs, rfl, .inr hxs, ?_⟩
        walk_at "ws"
        refine ⟨p4, ys, rfl, .inr hys, ?_⟩
        walk_at "ws"
        have lx := DpAll.length hxd
        have ly := DpAll.length hyd
        refine w_iteE (by simp [lx, ly]) ?_
        walk_at "ws"
        refine ⟨p3, p4, xs, ys, rfl, .inr ⟨hxs, hys, ?_⟩⟩
        intro D hD
        refine lc_pure (K := K) (o := none) (walk_zipT (xs := xs) (ys := ys) rfl) (by omega) hD (fun _ e => nomatch e) (fun _ => some (PyData.bool true)) (fun H' g => ⟨sqT_t g.tups hxs, sqT_t g.tups hys⟩) ?_ ?_
        · intro i x H3 H4 hi g3 hY Qy Qn ky kn
          obtain ⟨t, y, z, e, rfl, h4, me, hy4, hz4, g4⟩ := turn i xs ys H3 H4 x Qy Qn hxd hyd g3 hY ky
          refine ⟨t, _, rfl, SqT.of h4, rfl, ?_⟩
          refine ⟨_, _, rfl, ?_⟩
          walk_at "ws"
          refine ⟨_, _, rfl, ?_⟩
          walk_at "ws"
          refine ⟨rfl, rfl, ?_⟩
          walk_at "ws"
          exact ⟨y, z, e, rfl, hds e me, hy4, hz4, fun H5 g5 => ky _ _ _ (g4.trans g5) (.bl true) rfl rfl⟩
        · intro xs' H' g hD' hds' _
          obtain ⟨bs, rfl, eb⟩ := bools_true hds'
          walk_at "ws"
          refine ⟨D, bs, rfl, SqL.of hD', ?_⟩
          rw [eb]
          exact k _ (g12.trans g)
      · cases hv2 with
        | lst hxs hxd =>
          cases hu2 with
          | lst hys hyd =>
            rename_i p3 xs p4 ys
            walk_at "ws"
            refine ⟨p3, xs, rfl, .inl hxs, ?_⟩
            walk_at "ws"
            refine ⟨p4, ys, rfl, .inl hys, ?_⟩
            walk_at "ws"
            have lx := DpAll.length hxd
            have ly := DpAll.length hyd
            refine w_iteE (by simp [lx, ly]) ?_
            walk_at "ws"
            refine ⟨p3, p4, xs, ys, rfl, .inl ⟨hxs, hys, ?_⟩⟩
            intro D hD
            refine lc_pure (K := K) (o := none) (walk_zip (xs := xs) (ys := ys) rfl) (by omega) hD (fun _ e => nomatch e) (fun _ => some (PyData.bool true)) (fun H' g => ⟨sqL_n g hxs, sqL_n g hys⟩) ?_ ?_
            · intro i x H3 H4 hi g3 hY Qy Qn ky kn
              obtain ⟨t, y, z, e, rfl, h4, me, hy4, hz4, g4⟩ := turn i xs ys H3 H4 x Qy Qn hxd hyd g3 hY ky
              refine ⟨t, _, rfl, SqT.of h4, rfl, ?_⟩
              refine ⟨_, _, rfl, ?_⟩
              walk_at "ws"
              refine ⟨_, _, rfl, ?_⟩
              walk_at "ws"
              refine ⟨rfl, rfl, ?_⟩
              walk_at "ws"
              exact ⟨y, z, e, rfl, hds e me, hy4, hz4, fun H5 g5 => ky _ _ _ (g4.trans g5) (.bl true) rfl rfl⟩
            · intro xs' H' g hD' hds' _
              obtain ⟨bs, rfl, eb⟩ := bools_true hds'
              walk_at "ws"
              refine ⟨D, bs, rfl, SqL.of hD', ?_⟩
              rw [eb]
              exact k _ (g12.trans g)

end
end Mine
/-! ## K7 -/


namespace Mine
section
variable {P : Program} {w : World} {K : PySem.W.Frag} {mg : Str → Option Value} {base : Heap} {a : Ads}

/-! ### _law_flag, _law_web -/
theorem new_back {H0 H1 : Hp} {hd c l : Addr} (g : G (some (hd, c)) H0 H1) (x : Hand H1 hd c) (h : H1 l = none) : H0 l = none := by
  cases e : H0 l with
  | none => rfl
  | some u =>
    have n : l ≠ hd := x.ne h
    rw [g.keep l u (fun p e => by cases e; exact n) e] at h
    cases h
theorem at4 {b0 b1 b2 b3 : Bool} {z : Int} (h0 : 0 ≤ z) (h1 : z ≤ 3) : ∃ b, atI [V.bl b0, V.bl b1, V.bl b2, V.bl b3] z = some (.bl b) := by
  have : z = 0 ∨ z = 1 ∨ z = 2 ∨ z = 3 := by omega
  rcases this with rfl | rfl | rfl | rfl
  · exact ⟨b0, rfl⟩
  · exact ⟨b1, rfl⟩
  · exact ⟨b2, rfl⟩
  · exact ⟨b3, rfl⟩
/-- some wires, all ahead of (y, x) -/
structure Part (m : Int) (ws : List (Int × Int)) (y x : Int) : Prop where
  mem : ∀ u ∈ ws, (0 ≤ u.1 ∧ u.1 < m) ∧ (0 ≤ u.2 ∧ u.2 < m) ∧ u.1 ≠ u.2
  asc : ws.Pairwise ltP
  lt : ∀ u ∈ ws, ltP u (y, x)
theorem Part.up {m y x y' x' : Int} {ws : List (Int × Int)} (h : Part m ws y x) (e : y < y' ∨ (y = y' ∧ x ≤ x')) : Part m ws y' x' := ⟨h.mem, h.asc, fun u hu => by
  have q := h.lt u hu
  simp only [ltP] at q ⊢
  omega⟩
theorem Part.app {m y x : Int} {ws : List (Int × Int)} (h : Part m ws y x) (h1 : 0 ≤ y ∧ y < m) (h2 : 0 ≤ x ∧ x < m) (h3 : y ≠ x) : Part m (ws ++ [(y, x)]) y (x + 1) := by
  refine ⟨fun u hu => ?_, ?_, fun u hu => ?_⟩
  · rcases List.mem_append.mp hu with z | z
    · exact h.mem u z
    · have : u = (y, x) := by simpa using z
      subst this; exact ⟨h1, h2, h3⟩
  · rw [List.pairwise_append]
    refine ⟨h.asc, List.pairwise_singleton _ _, fun u hu v hv => ?_⟩
    have : v = (y, x) := by simpa using hv
    subst this; exact h.lt u hu
  · rcases List.mem_append.mp hu with z | z
    · have q := h.lt u z
      simp only [ltP] at q ⊢
      omega
    · have e : u = (y, x) := by simpa using z
      rw [e]
      exact .inr ⟨rfl, by show x < x + 1; omega⟩
def sp__law_web (K : PySem.W.Frag) : Sp := fun vs H Q _ => ∃ (hd c : Addr) (m : Int), vs = [.ref hd, .int m] ∧ Hand H hd c ∧ 1 ≤ m ∧ m ≤ 7 ∧ ∀ p ws H', G (some (hd, c)) H H' → Hand H' hd c → Dp K H' (.ref p) (dW ws) → IsWeb m ws → Q (.ref p) H'
/-- the loops' word -/
def WebW (K : PySem.W.Frag) (H : Hp) (hd c l : Addr) (m y x : Int) (H' : Hp) : Prop := ∃ (vs : List V) (ws : List (Int × Int)), G (some (hd, c)) H H' ∧ Hand H' hd c ∧ H' l = some (.lst vs) ∧ DpAll K H' vs (ws.map dP) ∧ Part m ws y x ∧ vs.length ≤ 10000
theorem part_len {m y x : Int} {ws : List (Int × Int)} (h : Part m ws y x) (hm : m ≤ 7) : ws.length ≤ 10000 := by
  have hn : (ws.map fun u => (u.1 * 7 + u.2).toNat).Nodup := by
    have : (ws.map fun u => (u.1 * 7 + u.2).toNat).Pairwise (· < ·) := by
      rw [List.pairwise_map]
      refine List.Pairwise.imp_of_mem (fun {u v} hu hv huv => ?_) h.asc
      have h1 := h.mem u hu
      have h2 := h.mem v hv
      unfold ltP at huv
      omega
    exact this.imp fun h => Nat.ne_of_lt h
  have hs : ∀ k ∈ (ws.map fun u => (u.1 * 7 + u.2).toNat), k ∈ List.range 10000 := by
    intro k hk
    obtain ⟨u, hu, rfl⟩ := List.mem_map.mp hk
    have h1 := h.mem u hu
    rw [List.mem_range]
    omega
  have := List.Nodup.length_le_of_subset hn hs
  simpa using this
theorem ok__law_web (T : Txt K mg a) : FnOk P w K mg base CX0 2 a.f__law_web a.d__law_web P__law_web (sp__law_web K) := by
  refine T.F__law_web.ok sc__law_web (fun vs H Q E h => by obtain ⟨hd, c, m, rfl, _⟩ := h; rfl) (fun cdv A outer s H vs Q E hr h => ?_)
  obtain ⟨hd, c, m, rfl, hh, m1, m7, k⟩ := h
  have G__law_draw : FnOk P w K mg base CX0 1 a.f__law_draw a.d__law_draw P__law_draw sp__law_draw := ok__law_draw T
  refine ⟨_, (pss_cons (ps_set (i := 2) sc__law_web.nd rfl (Or.inl rfl) (pe_call (G__law_draw) (hr.mono (by omega)) rfl T.m__law_draw T.F__law_draw.kp T.b__law_draw .nil pass0 (pa_cons (pv 0) (pa_cons pe_int pa_nil))))
  (pss_cons (ps_set (i := 3) sc__law_web.nd rfl (Or.inl rfl) (pe_lstN pa_nil))
  (pss_cons (ps_for PassesOwn.never rfl (pi_range1 rfl T.n_range (pa_cons (pv 1) pa_nil)) (pg_name (i := 4) sc__law_web.nd rfl (Or.inl rfl))
    (pss_one (ps_for PassesOwn.never rfl (pi_range1 rfl T.n_range (pa_cons (pv 1) pa_nil)) (pg_name (i := 5) sc__law_web.nd rfl (Or.inl rfl))
    (pss_cons (ps_set (i := 6) sc__law_web.nd rfl (Or.inl rfl) (pe_ix ix_list (pe_lstN (pa_cons pe_bl (pa_cons (pe_cmpR op_in_seq (pe_callB call_abs (by rfl) T.n_abs (by decide +kernel) (pa_cons (pe_op op_sub (pv 4) (pv 5)) pa_nil)) (pe_lstN (pa_cons pe_int (pa_cons (pe_op op_sub (pv 1) pe_int) pa_nil))) (by rfl)) (pa_cons (pe_cmpR op_eq (pe_callB call_abs (by rfl) T.n_abs (by decide +kernel) (pa_cons (pe_op op_sub (pv 4) (pv 5)) pa_nil)) pe_int (nomark _)) (pa_cons (pe_or (pe_cmpR op_eq (pv 4) pe_int (nomark _)) (pe_one (pe_cmpR op_eq (pv 5) pe_int (nomark _)))) pa_nil))))) (pe_callB (call_min2 rfl) (by rfl) T.n_min (by decide +kernel) (pa_cons (pv 2) (pa_cons pe_int pa_nil))) (fun _ _ => rfl)))
  (pss_cons (ps_if (pt_cmpR op_gt (pv 2) pe_int (nomark _))
    (pss_one (ps_set (i := 6) sc__law_web.nd rfl (Or.inl rfl) (pe_cmpR op_lt (pe_call (G__law_draw) (hr.mono (by omega)) rfl T.m__law_draw T.F__law_draw.kp T.b__law_draw .nil pass0 (pa_cons (pv 0) (pa_cons pe_int pa_nil))) (pe_op op_sub (pv 2) pe_int) (nomark _))))
    pss_nil)
  (pss_one (ps_if (L2.PW.pt (pw_and (pt_cmpR op_ne (pv 4) (pv 5) (nomark _)) (pw_and1 (pt_val (pv 6)))))
    (pss_one (ps_expr (pe_bm PySem.F.plainAttrs_list PySem.F.slot_list_append PySem.F.type_list_append mt_append (pv 3) (pa_cons (pe_tupN (pa_cons (pv 4) (pa_cons (pv 5) pa_nil))) pa_nil))))
    pss_nil)))))))
  (pss_one (ps_ret (pe_callTy call_tupleN (by rfl) T.n_tuple (by decide +kernel) (pa_cons (pv 3) pa_nil))))))), ?_⟩
  walk_at "ws"
  refine ⟨hd, c, 6, rfl, hh, by decide, by decide, fun kind H1 k0 k1 g1 hh1 => ?_⟩
  walk_at "ws"
  refine ⟨sz (by simp), fun l H2 hl g2 h2 => ?_⟩
  have l0 : H l = none := new_back g1 hh1 hl
  have nl : l ≠ hd := hh1.ne hl
  have g2 := g1.trans (g2 _)
  have hh2 := g2.hand _ rfl hh
  have offl : ∀ p, some (hd, c) = some p → l ≠ p.1 := fun p e => by cases e; exact nl
  walk_at "ws"
  refine i_rng1 (by omega) (by omega) ?_
  refine for_it walk_range (fun i σ H' => WebW K H hd c l m i 0 H' ∧ ∃ u v x, σ = [some (.ref hd), some (.int m), some (.int kind), some (.ref l), u, v, x]) ⟨⟨[], [], g2, hh2, h2, .nil, ⟨(fun _ h => nomatch h), .nil, (fun _ h => nomatch h)⟩, Nat.zero_le _⟩, _, _, _, rfl⟩ (fun _ _ _ _ _ => trivial) ?_ ?_
  · rintro y _ σ _ H3 hy ⟨hW, u, v, x, rfl⟩ ⟨rfl, rfl⟩
    walk_at "ws"
    refine i_rng1 (by omega) (by omega) ?_
    refine for_it walk_range (fun i σ H' => WebW K H hd c l m y i H' ∧ ∃ v x, σ = [some (.ref hd), some (.int m), some (.int kind), some (.ref l), some (.int (0 + (y : Int))), v, x]) ⟨hW, _, _, rfl⟩ (fun _ _ _ _ _ => trivial) ?_ ?_
    · rintro x _ σ _ H4 hx ⟨⟨ls, ws, g4, hh4, h4, hd4, hp, hz⟩, v, x', rfl⟩ ⟨rfl, rfl⟩
      refine w_seqM (fun σ H' => ∃ b : Bool, σ = [some (.ref hd), some (.int m), some (.int kind), some (.ref l), some (.int (0 + (y : Int))), some (.int (0 + (x : Int))), some (.bl b)] ∧ G (some (hd, c)) H4 H') (fun N kN => ?_) ?_
      · walk_at "ws"
        refine ⟨_, rfl, ?_⟩
        walk_at "ws"
        refine ⟨sz (by simp), fun q H5 hq g5 h5 => ?_⟩
        refine ⟨q, _, rfl, .inl (SqL.of h5), rfl, rfl, ?_⟩
        walk_at "ws"
        refine ⟨_, rfl, ?_⟩
        walk_at "ws"
        refine w_ite (fun e => ?_) (fun e => ?_) <;>
        · walk_at "ws"
          refine ⟨sz (by simp), fun p H6 hp g6 h6 => ?_⟩
          walk_at "ws"
          refine ⟨_, _, rfl, ?_⟩
          refine r_ixL (SqL.of h6) (at4 (by split <;> omega) (by split <;> omega)).choose_spec ?_
          walk_at "ws"
          exact kN _ _ ⟨_, rfl, (g5 _).trans (g6 _)⟩
      · rintro σ H5 ⟨b, rfl, g5⟩
        have hh5 := g5.hand _ rfl hh4
        refine w_seqM (fun σ H' => ∃ b : Bool, σ = [some (.ref hd), some (.int m), some (.int kind), some (.ref l), some (.int (0 + (y : Int))), some (.int (0 + (x : Int))), some (.bl b)] ∧ G (some (hd, c)) H4 H') (fun N kN => ?_) ?_
        · walk_at "ws"
          refine w_ite (fun e => ?_) (fun e => ?_)
          · walk_at "ws"
            refine ⟨hd, c, 4, rfl, hh5, by decide, by decide, fun r H6 r0 r1 g6 hh6 => ?_⟩
            walk_at "ws"
            exact kN _ _ ⟨_, rfl, g5.trans g6⟩
          · walk_at "ws"
            exact kN _ _ ⟨_, rfl, g5⟩
        · clear g5 hh5
          rintro σ H5 ⟨b, rfl, g5⟩
          have hh5 := g5.hand _ rfl hh4
          have h5 := g5.keep l _ offl h4
          have hd5 := dpAll_t g5.tups _ _ (nls_pairs ws) hd4
          have g05 := g4.trans g5
          have done : WebW K H hd c l m y ((x : Int) + 1) H5 := ⟨ls, ws, g05, hh5, h5, hd5, hp.up (by omega), hz⟩
          walk_at "ws"
          refine w_ite (fun e => ?_) (fun e => ?_)
          · walk_at "ws"
            refine w_ite (fun eb => ?_) (fun eb => ?_)
            · walk_at "ws"
              refine i_BM h5 ?_
              walk_at "ws"
              refine ⟨sz (by simp), fun t H6 ht g6 h6 => ?_⟩
              have h6l := (g6 none).all _ _ h5
              have hd6 := dpAll_t (g6 none).tups _ _ (nls_pairs ws) hd5
              walk_at "ws"
              refine r_app h6l (by omega) ?_
              walk_at "ws"
              have g06 := g05.trans (g6 _)
              have g07 : G (some (hd, c)) H (upd H6 l (.lst (ls ++ [.ref t]))) := g06.mut l0 (fun p e => by cases e; exact hh)
              have tt : Ts H6 (upd H6 l (.lst (ls ++ [.ref t]))) := Ts.updl h6l
              have hp' := hp.app (y := y) (x := x) (by omega) (by omega) (by
                have := e
                simp at this
                omega)
              have hdt : Dp K H6 (.ref t) (dP ((y : Int), (x : Int))) := dp_ofP (by
                have z := SqT.of (K := K) h6
                rw [Int.zero_add, Int.zero_add] at z
                exact z)
              refine ⟨⟨_, ws ++ [((y : Int), (x : Int))], g07, g07.hand _ rfl hh, upd_same, ?_, hp', ?_⟩, _, _, rfl⟩
              · rw [List.map_append]
                exact DpAll.app (dpAll_t tt _ _ (nls_pairs ws) hd6) (DpAll.one (dp_t tt _ _ (nl_dP _) hdt))
              · have l1 := part_len hp' m7
                have l2 := DpAll.length hd6
                simp only [List.length_append, List.length_map, List.length_singleton] at l1 l2 ⊢
                omega
            · walk_at "ws"
              exact ⟨done, _, _, rfl⟩
          · walk_at "ws"
            exact ⟨done, _, _, rfl⟩
    · rintro σ H4 ⟨⟨ls, ws, g4, hh4, h4, hd4, hp, hz⟩, v, x', rfl⟩
      exact ⟨⟨ls, ws, g4, hh4, h4, hd4, hp.up (by omega), hz⟩, _, _, _, rfl⟩
  · rintro σ H4 ⟨⟨ls, ws, g4, hh4, h4, hd4, hp, hz⟩, u, v, x', rfl⟩
    walk_at "ws"
    refine ⟨l, ls, rfl, .inl ⟨SqL.of h4, fun p H5 hp5 g5 h5 => ?_⟩⟩
    exact k p ws H5 (g4.trans (g5 _)) ((g5 (some (hd, c))).hand (hd, c) rfl hh4) (.tup (SqT.of h5) (dpAll_t (g5 none).tups _ _ (nls_pairs ws) hd4)) ⟨m1, m7, hp.mem, hp.asc⟩

end
end Mine
/-! ## K8 -/


namespace Mine
section
variable {P : Program} {w : World} {K : PySem.W.Frag} {mg : Str → Option Value} {base : Heap} {a : Ads}

/-! ### webs made of others -/
theorem ltW_ltP : ∀ {ws : List (Int × Int)}, ws.Pairwise ltW → ws.Pairwise ltP := fun h => h
def sp_web_of_any_size (K : PySem.W.Frag) (C : Addr) : Sp := fun vs H Q _ => ∃ (m : Int) (l : Addr) (xs : List V) (us : List (Int × Int)), vs = [.int m, .ref l] ∧ (SqL K H l xs ∨ SqT K H l xs) ∧ DpAll K H xs (us.map dP) ∧ us.length < 64 ∧ (∀ u ∈ us, in64 u) ∧
  ∀ x (ws : List (Int × Int)) H', H x = none → G none H H' → WebAt K C H' x m ws → ws.Pairwise ltP → (∀ u, u ∈ ws ↔ u ∈ us) → Q (.ref x) H'
theorem ok_web_of_any_size (T : Txt K mg a) : FnOk P w K mg base CX0 9 a.f_web_of_any_size a.d_web_of_any_size P_web_of_any_size (sp_web_of_any_size K a.c_Web) := by
  refine T.F_web_of_any_size.ok sc_web_of_any_size (fun vs H Q E h => by obtain ⟨m, l, xs, us, rfl, _⟩ := h; rfl) (fun cdv A outer s H vs Q E hr h => ?_)
  obtain ⟨m, l, xs, us, rfl, hl, hd, hz, hb, k⟩ := h
  have G_Web_init : FnOk P w K mg base CX0 7 a.f_Web_init a.d_Web_init P_Web_init (sp_Web_init K a.c_Web) := ok_Web_init T
  refine ⟨_, (pss_cons (ps_set (i := 2) sc_web_of_any_size.nd rfl (Or.inl rfl) (pe_make T.K_Web (G_Web_init) (hr.mono (by omega)) rfl T.m_Web T.b_Web_init .nil pass0 (pa_cons pe_int (pa_cons (pe_tupN pa_nil) pa_nil))))
  (pss_cons (ps_fld (pv 2) (pv 0) rfl)
  (pss_cons (ps_fld (pv 2) (pe_callTy call_tupleN (by rfl) T.n_tuple (by decide +kernel) (pa_cons (pe_callB (cr_sortSN rfl) (by rfl) T.n_sorted (by decide +kernel) (pa_cons (pe_callTy (cr_setPA rfl hr.units) (by rfl) T.n_set (by decide +kernel) (pa_cons (pv 1) pa_nil)) pa_nil)) pa_nil)) rfl)
  (pss_one (ps_ret (pv 2)))))), ?_⟩
  walk_at "ws"
  refine ⟨sz (by simp), fun t H1 ht g1 h1 => ?_⟩
  walk_at "ws"
  intro x dx hx hdx nex
  have hxi : (upd (upd H1 dx (.own x)) x (.ins a.c_Web dx [])) x = some (.ins a.c_Web dx []) := upd_same
  have g12 : G none H1 (upd (upd H1 dx (.own x)) x (.ins a.c_Web dx [])) := (G.alloc hdx).trans (G.alloc (by rw [upd_ne (Ne.symm nex)]; exact hx))
  refine ⟨x, dx, 1, t, [], rfl, hxi, .tup (SqT.of (g12.all _ _ h1)) .nil, ⟨by decide, by decide, (fun _ h => nomatch h), .nil⟩, fun H2 k2 t2 h2 => ⟨rfl, ?_⟩⟩
  have hx0 : H x = none := by
    cases c : H x with
    | none => rfl
    | some u => rw [(g1 none).all _ _ c] at hx; cases hx
  have g02 : G none H H2 := by
    refine (g1 none).trans (G.of_all fun b u e => ?_)
    exact k2 b u (ne_of_none e hx) (g12.all _ _ e)
  walk_at "ws"
  refine r_sfld h2 T.cl_Web T.na_Web_machines (by show 2 < 1000; decide) ?_
  rw [put_m]
  have h3 : (upd H2 x (.ins a.c_Web dx (wf (.int m) (.ref t)))) x = some (.ins a.c_Web dx (wf (.int m) (.ref t))) := upd_same
  have g03 : G none H (upd H2 x (.ins a.c_Web dx (wf (.int m) (.ref t)))) := g02.mut hx0 (fun _ e => nomatch e)
  generalize upd H2 x (.ins a.c_Web dx (wf (.int m) (.ref t))) = H3 at h3 g03 ⊢
  walk_at "ws"
  refine ⟨l, xs, us, rfl, hl.imp (sqL_n g03) (sqT_t g03.tups), (dp_n g03).2 _ _ hd, hz, fun s1 L H4 hs1 g4 h4 hL hm => ?_⟩
  walk_at "ws"
  refine ⟨s1, L, us, rfl, h4, hL, hm, hb, fun ws asc mem few p H5 ys hp g5 h5 hys => ?_⟩
  walk_at "ws"
  refine ⟨p, ys, rfl, .inl ⟨SqL.of h5, fun q H6 hq g6 h6 => ?_⟩⟩
  walk_at "ws"
  have g36 := ((g4 none).trans (g5 none)).trans (g6 none)
  have h36 := g36.all _ _ h3
  refine r_sfld h36 T.cl_Web T.na_Web_wires (by show 2 < 1000; decide) ?_
  rw [put_w]
  walk_at "ws"
  refine k x ws _ hx0 ((g03.trans g36).mut hx0 (fun _ e => nomatch e)) ⟨dx, q, upd_same, ?_⟩ (ltW_ltP asc) mem
  have t6 : Ts H6 (upd H6 x (.ins a.c_Web dx (wf (.int m) (.ref q)))) := ts_updI h36
  exact .tup (sqT_t t6 (SqT.of h6)) (dpAll_t (((g6 none).tups).trans t6) _ _ (nls_pairs ws) hys)

theorem pw_le_range {n : Nat} {l : List Int} (hl : ∀ x : Int, x ∈ l ↔ 0 ≤ x ∧ x < n) (hn : l.Nodup) (hp : l.Pairwise (· ≤ ·)) : l = (List.range n).map fun i => ((i : Nat) : Int) := by
  have h1 : l.Perm ((List.range n).map fun i => ((i : Nat) : Int)) := by
    refine (List.perm_ext_iff_of_nodup hn ?_).mpr fun x => ?_
    · have : (List.range n).Pairwise (· < ·) := List.pairwise_lt_range
      exact (List.pairwise_map.mpr (this.imp fun h e => by omega))
    · rw [hl, List.mem_map]
      constructor
      · intro h
        exact ⟨x.toNat, List.mem_range.mpr (by omega), by omega⟩
      · rintro ⟨i, hi, rfl⟩
        have := List.mem_range.mp hi
        omega
  have h2 : ((List.range n).map fun i => ((i : Nat) : Int)).Pairwise (· ≤ ·) := List.pairwise_map.mpr ((List.pairwise_lt_range (n := n)).imp fun h => by omega)
  exact h1.eq_of_pairwise (fun a b _ _ h1 h2 => Int.le_antisymm h1 h2) hp h2
/-- a tuple of all machines, each once -/
structure IsOrd (m : Int) (os : List Int) : Prop where
  pos : 0 ≤ m
  small : m ≤ 100
  nd : os.Nodup
  mem : ∀ x, x ∈ os ↔ 0 ≤ x ∧ x < m
def sp_is_order (K : PySem.W.Frag) : Sp := fun vs H Q _ => ∃ (m : Int) (p : Addr) (os : List Int), vs = [.int m, .ref p] ∧ Dp K H (.ref p) (dI os) ∧ IsOrd m os ∧ ∀ H', G none H H' → Q (.bl true) H'
theorem IsOrd.len {m : Int} {os : List Int} (h : IsOrd m os) : os.length ≤ 1000 := by
  have := List.Nodup.length_le_of_subset (l₂ := (List.range 1000).map fun i => ((i : Nat) : Int)) h.nd fun x hx => by
    have := (h.mem x).mp hx
    have := h.small
    exact List.mem_map.mpr ⟨x.toNat, List.mem_range.mpr (by omega), by omega⟩
  simpa using this
theorem ok_is_order (T : Txt K mg a) : FnOk P w K mg base CX0 5 a.f_is_order a.d_is_order P_is_order (sp_is_order K) := by
  refine T.F_is_order.ok sc_is_order (fun vs H Q E h => by obtain ⟨m, p, os, rfl, _⟩ := h; rfl) (fun cdv A outer s H vs Q E hr h => ?_)
  obtain ⟨m, p, os, rfl, hx, ho, k⟩ := h
  have G_are_below : FnOk P w K mg base CX0 4 a.f_are_below a.d_are_below P_are_below (sp_are_below K) := ok_are_below T
  obtain ⟨p', e, hxs⟩ := dp_dI hx
  cases e
  have m0 := ho.pos
  have m1 := ho.small
  refine ⟨_, (pss_cons (ps_if (L2.PW.pt (pw_or (pt_not (pt_val (pe_callB call_isi (by rfl) T.n_isinstance (by decide +kernel) (pa_cons (pv 1) (pa_cons (pe_bltn (v := .ty "tuple") (u := .type "tuple") rfl T.n_tuple (by decide +kernel) rfl) pa_nil))))) (pw_or1 (pt_not (pt_val (pe_call (G_are_below) (hr.mono (by omega)) rfl T.m_are_below T.F_are_below.kp T.b_are_below .nil pass0 (pa_cons (pv 0) (pa_cons (pv 1) pa_nil))))))))
    (pss_one (ps_ret pe_bl))
    pss_nil)
  (pss_one (ps_ret (pe_cmpR (op_eqD hr.units) (pe_callB cr_sortedIT (by rfl) T.n_sorted (by decide +kernel) (pa_cons (pv 1) pa_nil)) (pe_listRgN rfl (by rfl) T.n_list (prg_1 (by rfl) T.n_range (pv 0)) (mo_rg1 mo_var)) (nomark _))))), ?_⟩
  walk_at "ws"
  refine r_isi (tyx_tup hxs) ki_tt ?_
  walk_at "ws"
  refine ⟨m, p, os, rfl, hxs, by have := ho.len; omega, fun H1 g1 => ?_⟩
  have e1 : os.all (inB m) = true := by
    rw [List.all_eq_true]
    intro x hx
    have := (ho.mem x).mp hx
    simp only [inB, Bool.and_eq_true, decide_eq_true_eq]
    exact this
  rw [e1]
  walk_at "ws"
  refine ⟨p, os, rfl, sqT_t g1.tups hxs, fun ns pm pw q H2 hq g2 h2 => ?_⟩
  refine w_lstRg (w_rg1 ?_)
  walk_at "ws"
  refine ⟨RgOk.of_le (by decide) (by omega) (by decide) (by omega), fun r H3 hr g3 h3 => ?_⟩
  have e2 : ns = (List.range m.toNat).map fun i => ((i : Nat) : Int) := pw_le_range (fun x => by
    rw [pm.mem_iff, ho.mem]
    omega) (pm.nodup_iff.mpr ho.nd) pw
  have e3 : rgV 0 m = ns.map V.int := by
    rw [e2]
    unfold rgV
    rw [List.map_map, Int.sub_zero]
    refine List.map_congr_left fun i _ => ?_
    show V.int (0 + ((i : Nat) : Int)) = V.int ((i : Nat) : Int)
    rw [Int.zero_add]
  rw [e3] at h3
  have sh : SeqAt.shaped (.list (ns.map PyData.int)) = true := sh_of (by
    rw [PyData.canLay0]
    exact canAll fun d h => by
      obtain ⟨n, _, rfl⟩ := List.mem_map.mp h
      exact can_int) (by
    rw [PyData.depth]
    have := depAll (n := 0) (ds := ns.map PyData.int) fun d h => by
      obtain ⟨n, _, rfl⟩ := List.mem_map.mp h
      rw [dep_int]; exact Nat.le_refl _
    omega)
  refine ⟨.list (ns.map PyData.int), .list (ns.map PyData.int), .lst (SqL.of ((g3 none).all _ _ h2)) (DpAll.ints ns), .lst (SqL.of h3) (DpAll.ints ns), sh, sh, ?_⟩
  have e4 : PyData.eqv (.list (ns.map PyData.int)) (.list (ns.map PyData.int)) = true := by
    rw [PyData.eqv, eqvAll_map (fun _ _ => eqv_int)]; simp
  rw [e4]
  exact k _ ((g1.trans (g2 none)).trans (g3 none))

def sp_renamed (K : PySem.W.Frag) (C : Addr) : Sp := fun vs H Q _ => ∃ (x : Addr) (p : Addr) (m : Int) (ws : List (Int × Int)) (os : List Int), vs = [.ref x, .ref p] ∧ WebAt K C H x m ws ∧ IsWeb m ws ∧ Dp K H (.ref p) (dI os) ∧ IsOrd m os ∧
  ∀ y (ws' : List (Int × Int)) H', H y = none → G none H H' → WebAt K C H' y m ws' → IsWeb m ws' → (∀ u, u ∈ ws' ↔ ∃ v ∈ ws, u = (os.getD v.1.toNat 0, os.getD v.2.toNat 0)) → Q (.ref y) H'
theorem ord_at {m : Int} {os : List Int} (h : IsOrd m os) {i : Int} (h0 : 0 ≤ i) (h1 : i < m) : atI (os.map V.int) i = some (.int (os.getD i.toNat 0)) ∧ (0 ≤ os.getD i.toNat 0 ∧ os.getD i.toNat 0 < m) ∧ i.toNat < os.length := by
  have hl : (m.toNat) ≤ os.length := by
    have h2 := List.Nodup.length_le_of_subset (l₁ := (List.range m.toNat).map fun i => ((i : Nat) : Int)) (l₂ := os) (List.pairwise_map.mpr ((List.pairwise_lt_range (n := m.toNat)).imp fun h e => by omega)) fun x hx => by
      obtain ⟨i, hi, rfl⟩ := List.mem_map.mp hx
      have := List.mem_range.mp hi
      rw [h.mem]; omega
    simpa using h2
  have hi : i.toNat < os.length := by omega
  have e : os[i.toNat]? = some (os.getD i.toNat 0) := by rw [List.getD_eq_getElem?_getD, List.getElem?_eq_getElem hi]; rfl
  exact ⟨at_of (j := i.toNat) (by omega) (by rw [List.getElem?_map, e]; rfl), (h.mem _).mp (List.mem_of_getElem? e), hi⟩
theorem isweb_len {m : Int} {ws : List (Int × Int)} (h : IsWeb m ws) : ws.length < 64 := by
  have hn : (ws.map fun u => (u.1 * 7 + u.2).toNat).Nodup := by
    have : (ws.map fun u => (u.1 * 7 + u.2).toNat).Pairwise (· < ·) := by
      rw [List.pairwise_map]
      refine List.Pairwise.imp_of_mem (fun {u v} hu hv huv => ?_) h.asc
      have h1 := h.mem u hu
      have h2 := h.mem v hv
      have := h.hi
      unfold ltP at huv
      omega
    exact this.imp fun h => Nat.ne_of_lt h
  have := List.Nodup.length_le_of_subset (l₂ := List.range 63) hn fun k hk => by
    obtain ⟨u, hu, rfl⟩ := List.mem_map.mp hk
    have h1 := h.mem u hu
    have := h.hi
    rw [List.mem_range]
    omega
  have : ws.length ≤ 63 := by simpa using this
  omega
theorem ok_renamed (T : Txt K mg a) : FnOk P w K mg base CX0 10 a.f_renamed a.d_renamed P_renamed (sp_renamed K a.c_Web) := by
  refine T.F_renamed.ok sc_renamed (fun vs H Q E h => by obtain ⟨x, p, m, ws, os, rfl, _⟩ := h; rfl) (fun cdv A outer s H vs Q E hr h => ?_)
  obtain ⟨x, p, m, ws, os, rfl, hx, hw, hp, ho, k⟩ := h
  have G_is_order : FnOk P w K mg base CX0 5 a.f_is_order a.d_is_order P_is_order (sp_is_order K) := ok_is_order T
  have G_web_of_any_size : FnOk P w K mg base CX0 9 a.f_web_of_any_size a.d_web_of_any_size P_web_of_any_size (sp_web_of_any_size K a.c_Web) := ok_web_of_any_size T
  obtain ⟨p', e, hps⟩ := dp_dI hp
  cases e
  have hlen := isweb_len hw
  have hm := hw.hi
  refine ⟨_, (pss_cons (ps_if (pt_not (pt_val (pe_call (G_is_order) (hr.mono (by omega)) rfl T.m_is_order T.F_is_order.kp T.b_is_order .nil pass0 (pa_cons (pe_fld (pv 0) rfl) (pa_cons (pv 1) pa_nil)))))
    pss_never
    pss_nil)
  (pss_one (ps_ret (pe_call (G_web_of_any_size) (hr.mono (by omega)) rfl T.m_web_of_any_size T.F_web_of_any_size.kp T.b_web_of_any_size .nil pass0 (pa_cons (pe_fld (pv 0) rfl) (pa_cons (pe_lc (own := [("y", 2), ("x", 3)]) (g := (gTup K 2 (gCons (gName 2) (gCons (gName 3) gNil)))) (tt := tYes) rfl sc_renamed.nd (pi_tup (pe_fld (pv 0) rfl)) (blkOk_by (N := N_renamed) (sc := defScope s_renamed) (by decide +kernel)) (fun _ _ _ _ _ => (pg_tup rfl (pgs_cons (pg_name (i := 2) sc_renamed.nd rfl (by first | exact Or.inl rfl | exact Or.inr rfl)) (pgs_cons (pg_name (i := 3) sc_renamed.nd rfl (by first | exact Or.inl rfl | exact Or.inr rfl)) pgs_nil)))) (fun _ _ _ _ _ => pts_nil) (fun _ _ _ _ _ => (pe_tupN (pa_cons (pe_ix (k_ix_tup K) (pv 1) (pv 2) (fun _ _ => rfl)) (pa_cons (pe_ix (k_ix_tup K) (pv 1) (pv 3) (fun _ _ => rfl)) pa_nil))))) pa_nil)))))), ?_⟩
  walk_at "ws"
  obtain ⟨dx, wa, hxi, hwa⟩ := id hx
  refine r_fld hxi T.cl_Web T.na_Web_machines (wf_m _ _) ?_
  walk_at "ws"
  refine ⟨m, p, os, rfl, hp, ho, fun H1 g1 => ?_⟩
  walk_at "ws"
  refine r_fld (g1.all _ _ hxi) T.cl_Web T.na_Web_machines (wf_m _ _) ?_
  walk_at "ws"
  refine r_fld (g1.all _ _ hxi) T.cl_Web T.na_Web_wires (wf_w _ _) ?_
  obtain ⟨wa', vs, e, hvs, hds⟩ := dp_tup ((dp_n g1).1 _ _ hwa)
  cases e
  refine i_tup hvs ?_
  intro D hD
  have hvl : vs.length = ws.length := by rw [DpAll.length hds, List.length_map]
  refine lc_pure (K := K) (o := none) (walk_tup (xs := vs)) (by omega) hD (fun _ e => nomatch e) (fun i => ws[i]?.map fun v => dP (os.getD v.1.toNat 0, os.getD v.2.toNat 0)) (fun H' g => sqT_t g.tups hvs) ?_ ?_
  · rintro i y _ H2 hi g2 ⟨rfl, hy⟩ Qy Qn ky kn
    obtain ⟨d, hd, hyd⟩ := DpAll.get hds hy
    rw [List.getElem?_map] at hd
    obtain ⟨u, hu, rfl⟩ := Option.map_eq_some_iff.mp hd
    obtain ⟨t, rfl, ht⟩ := dp_dP hyd
    have um := hw.mem u (List.mem_of_getElem? hu)
    obtain ⟨a1, a2, _⟩ := ord_at ho um.1.1 um.1.2
    obtain ⟨b1, b2, _⟩ := ord_at ho um.2.1.1 um.2.1.2
    have g02 := g1.trans g2
    refine ⟨t, _, rfl, sqT_t g2.tups ht, rfl, ?_⟩
    refine ⟨_, _, rfl, ?_⟩
    walk_at "ws"
    refine ⟨_, _, rfl, ?_⟩
    walk_at "ws"
    refine ⟨rfl, rfl, ?_⟩
    walk_at "ws"
    refine r_ixT (sqT_t g02.tups hps) a1 ?_
    walk_at "ws"
    refine r_ixT (sqT_t g02.tups hps) b1 ?_
    walk_at "ws"
    refine ⟨sz (by simp), fun q H3 hq g3 h3 => ?_⟩
    exact ky _ _ _ (g3 none) (dp_ofP (SqT.of h3)) (nl_dP _) (by rw [hu]; rfl)
  · intro xs H2 g2 hD' hds' _
    rw [hvl, filterMap_range_map] at hds'
    walk_at "ws"
    have e1 : (ws.map fun v => dP (os.getD v.1.toNat 0, os.getD v.2.toNat 0)) = (ws.map fun v => (os.getD v.1.toNat 0, os.getD v.2.toNat 0)).map dP := by rw [List.map_map]; rfl
    rw [e1] at hds'
    have g02 := g1.trans g2
    refine ⟨m, D, xs, _, rfl, .inl (SqL.of hD'), hds', by rw [List.length_map]; exact hlen, fun u hu => ?_, fun y ws' H3 hy g3 hwy asc mem => ?_⟩
    · obtain ⟨v, hv, rfl⟩ := List.mem_map.mp hu
      have um := hw.mem v hv
      obtain ⟨_, a2, _⟩ := ord_at ho um.1.1 um.1.2
      obtain ⟨_, b2, _⟩ := ord_at ho um.2.1.1 um.2.1.2
      exact ⟨⟨a2.1, by show _ < (64 : Int); omega⟩, b2.1, by show _ < (64 : Int); omega⟩
    · have mem' : ∀ u, u ∈ ws' ↔ ∃ v ∈ ws, u = (os.getD v.1.toNat 0, os.getD v.2.toNat 0) := fun u => by
        rw [mem, List.mem_map]
        exact ⟨fun ⟨v, a, b⟩ => ⟨v, a, b.symm⟩, fun ⟨v, a, b⟩ => ⟨v, a, b.symm⟩⟩
      have hy0 : H y = none := by
        cases c : H y with
        | none => rfl
        | some u => rw [g02.all _ _ c] at hy; cases hy
      refine k y ws' H3 hy0 (g02.trans g3) hwy ⟨hw.lo, hw.hi, fun u hu => ?_, asc⟩ mem'
      obtain ⟨v, hv, rfl⟩ := (mem' u).mp hu
      have um := hw.mem v hv
      obtain ⟨_, a2, al⟩ := ord_at ho um.1.1 um.1.2
      obtain ⟨_, b2, bl⟩ := ord_at ho um.2.1.1 um.2.1.2
      refine ⟨a2, b2, fun e => um.2.2 ?_⟩
      have e : os.getD v.1.toNat 0 = os.getD v.2.toNat 0 := e
      rw [List.getD_eq_getElem?_getD, List.getD_eq_getElem?_getD, List.getElem?_eq_getElem al, List.getElem?_eq_getElem bl] at e
      have := (List.getElem_inj ho.nd).mp (show os[v.1.toNat] = os[v.2.toNat] from e)
      omega

end
end Mine
/-! ## K9 -/


namespace Mine
section
variable {P : Program} {w : World} {K : PySem.W.Frag} {mg : Str → Option Value} {base : Heap} {a : Ads}

/-! ### ==, what is a list or a tuple of pairs -/
def rWeb (K : PySem.W.Frag) (C : Addr) : Addr → Addr → Hp → Prop := fun x y H => ∃ m ws, WebAt K C H x m ws ∧ WebAt K C H y m ws
theorem ext_of {H H' : Hp} (e : Ext H H') : G none H H' := G.of_all e
theorem ext_to {H H' : Hp} (g : G none H H') : Ext H H' := fun a u h => g.all a u h
theorem ok_Web_eq (T : Txt K mg a) : FnOk P w K mg base CX0 1 a.f_Web_eq a.d_Web_eq P_Web_eq (spEq (rWeb K a.c_Web)) := by
  refine T.F_Web_eq.ok sc_Web_eq (fun vs H Q E h => by obtain ⟨x, y, rfl, _⟩ := h; rfl) (fun cdv A outer s H vs Q E hr h => ?_)
  obtain ⟨x, y, rfl, ⟨m, ws, ⟨dx, wa, hx, hxw⟩, dy, wb, hy, hyw⟩, k⟩ := h
  refine ⟨_, (pss_one (ps_ret (pe_and (pe_callB (C8.call_isC T.ic_Web) (by rfl) T.n_isinstance (by decide +kernel) (pa_cons (pv 1) (pa_cons (pe_glob (v := .ref a.c_Web) rfl T.m_Web rfl) pa_nil))) (pe_and (pe_cmpR op_eq (pe_fld (pv 0) rfl) (pe_fld (pv 1) rfl) (nomark _)) (pe_one (pe_cmpR (op_eqD hr.units) (pe_fld (pv 0) rfl) (pe_fld (pv 1) rfl) (nomark _))))))), ?_⟩
  walk_at "ws"
  refine ⟨y, dy, _, rfl, hy, ?_⟩
  walk_at "ws"
  refine r_fld hx T.cl_Web T.na_Web_machines (wf_m _ _) ?_
  walk_at "ws"
  refine r_fld hy T.cl_Web T.na_Web_machines (wf_m _ _) ?_
  walk_at "ws"
  refine w_iteE (by simp) ?_
  walk_at "ws"
  refine r_fld hx T.cl_Web T.na_Web_wires (wf_w _ _) ?_
  walk_at "ws"
  refine r_fld hy T.cl_Web T.na_Web_wires (wf_w _ _) ?_
  refine ⟨dW ws, dW ws, hxw, hyw, sh_dW ws, sh_dW ws, ?_⟩
  rw [eqv_dW, decide_eq_true (rfl : ws = ws)]
  exact k _ Ext.rfl'

/-- a list or a tuple of pairs -/
def PL (K : PySem.W.Frag) (H : Hp) (p : Addr) (us : List (Int × Int)) : Prop := ∃ xs, (SqL K H p xs ∨ SqT K H p xs) ∧ DpAll K H xs (us.map dP)
theorem PL.n {H H' : Hp} {p : Addr} {us : List (Int × Int)} (h : PL K H p us) (g : G none H H') : PL K H' p us := by
  obtain ⟨xs, h1, h2⟩ := h
  exact ⟨xs, h1.imp (sqL_n g) (sqT_t g.tups), (dp_n g).2 _ _ h2⟩
theorem PL.of {H : Hp} {p : Addr} {xs : List V} {us : List (Int × Int)} (h : H p = some (.lst xs)) (d : DpAll K H xs (us.map dP)) : PL K H p us := ⟨xs, .inl (SqL.of h), d⟩
theorem Fil.pl {o : Option (Addr × Addr)} {H0 H : Hp} {D : Addr} {us : List (Int × Int)} (f : Fil K o H0 H D us) : PL K H D us := by
  obtain ⟨_, xs, h1, h2⟩ := f
  exact .of h1 h2
def okP (m : Int) (u : Int × Int) : Prop := (0 ≤ u.1 ∧ u.1 < m) ∧ (0 ≤ u.2 ∧ u.2 < m) ∧ u.1 ≠ u.2
theorem okP.bool {m : Int} {u : Int × Int} (h : okP m u) : (inB m u.1 && inB m u.2 && !decide (u.1 = u.2)) = true := by
  unfold okP at h
  simp only [inB, Bool.and_eq_true, decide_eq_true_eq, Bool.not_eq_true', decide_eq_false_iff_not]
  omega
theorem ki_ll : PySem.W.kitOne K (.type "list") (.type "list") = some true := kit_ty (by decide +kernel)
theorem ki_tl' : PySem.W.kitOne K (.type "tuple") (.type "list") = some false := kit_ty (by decide +kernel)
def sp_is_list_or_tuple (K : PySem.W.Frag) : Sp := fun vs H Q _ => ∃ (p : Addr) (us : List (Int × Int)), vs = [.ref p] ∧ PL K H p us ∧ ∀ H', G none H H' → Q (.bl true) H'
theorem ok_is_list_or_tuple (T : Txt K mg a) : FnOk P w K mg base CX0 1 a.f_is_list_or_tuple a.d_is_list_or_tuple P_is_list_or_tuple (sp_is_list_or_tuple K) := by
  refine T.F_is_list_or_tuple.ok sc_is_list_or_tuple (fun vs H Q E h => by obtain ⟨p, us, rfl, _⟩ := h; rfl) (fun cdv A outer s H vs Q E hr h => ?_)
  obtain ⟨p, us, rfl, hp, k⟩ := h
  refine ⟨_, (pss_one (ps_ret (pe_callB call_isiT (by rfl) T.n_isinstance (by decide +kernel) (pa_cons (pv 0) (pa_cons (pe_tupN (pa_cons (pe_bltn (v := .ty "list") (u := .type "list") rfl T.n_list (by decide +kernel) rfl) (pa_cons (pe_bltn (v := .ty "tuple") (u := .type "tuple") rfl T.n_tuple (by decide +kernel) rfl) pa_nil))) pa_nil))))), ?_⟩
  walk_at "ws"
  refine ⟨sz (by simp), fun t H1 ht g1 h1 => ?_⟩
  walk_at "ws"
  obtain ⟨xs, hx, _⟩ := hp.n (g1 none)
  rcases hx with hx | hx
  · exact ⟨.ref p, t, [.ty "list", .ty "tuple"], _, [.type "list", .type "tuple"], true, rfl, h1, .cons (.ty "list") (.cons (.ty "tuple") .nil), tyx_lst hx, kitAny_cons ki_ll (fun e => by cases e) (fun _ => rfl), k _ (g1 none)⟩
  · exact ⟨.ref p, t, [.ty "list", .ty "tuple"], _, [.type "list", .type "tuple"], true, rfl, h1, .cons (.ty "list") (.cons (.ty "tuple") .nil), tyx_tup hx, kitAny_cons ki_tl' (fun _ => kitAny_cons ki_tt (fun e => by cases e) (fun _ => rfl)) (fun e => by cases e), k _ (g1 none)⟩

def sp_check_number : Sp := fun vs H Q _ => ∃ lo m : Int, vs = [.int lo, .int m] ∧ lo ≤ m ∧ m ≤ 7 ∧ Q .non H
theorem ok_check_number (T : Txt K mg a) : FnOk P w K mg base CX0 3 a.f_check_number a.d_check_number P_check_number sp_check_number := by
  refine T.F_check_number.ok sc_check_number (fun vs H Q E h => by obtain ⟨lo, m, rfl, _⟩ := h; rfl) (fun cdv A outer s H vs Q E hr h => ?_)
  obtain ⟨lo, m, rfl, h1, h2, k⟩ := h
  have G_is_between : FnOk P w K mg base CX0 2 a.f_is_between a.d_is_between P_is_between sp_is_between := ok_is_between T
  refine ⟨_, (pss_one (ps_if (pt_not (pt_val (pe_call (G_is_between) (hr.mono (by omega)) rfl T.m_is_between T.F_is_between.kp T.b_is_between .nil pass0 (pa_cons (pv 0) (pa_cons (pe_glob (v := .int 7) rfl T.m_MOST_MACHINES ⟨_, rfl⟩) (pa_cons (pv 1) pa_nil))))))
    pss_never
    pss_nil)), ?_⟩
  walk_at "ws"
  refine ⟨_, _, _, rfl, ?_⟩
  rw [decide_eq_true h1, decide_eq_true h2]
  walk_at "ws"
  exact k

def sp_are_pairs (K : PySem.W.Frag) : Sp := fun vs H Q _ => ∃ (m : Int) (p : Addr) (us : List (Int × Int)), vs = [.int m, .ref p] ∧ PL K H p us ∧ (∀ u ∈ us, okP m u) ∧ us.length ≤ 10000 ∧ ∀ H', G none H H' → Q (.bl true) H'
theorem ok_are_pairs (T : Txt K mg a) : FnOk P w K mg base CX0 6 a.f_are_pairs a.d_are_pairs P_are_pairs (sp_are_pairs K) := by
  refine T.F_are_pairs.ok sc_are_pairs (fun vs H Q E h => by obtain ⟨m, p, us, rfl, _⟩ := h; rfl) (fun cdv A outer s H vs Q E hr h => ?_)
  obtain ⟨m, p, us, rfl, hp, hu, hz, k⟩ := h
  have G_is_list_or_tuple : FnOk P w K mg base CX0 1 a.f_is_list_or_tuple a.d_is_list_or_tuple P_is_list_or_tuple (sp_is_list_or_tuple K) := ok_is_list_or_tuple T
  have G_is_unlike_pair : FnOk P w K mg base CX0 5 a.f_is_unlike_pair a.d_is_unlike_pair P_is_unlike_pair (sp_is_unlike_pair K) := ok_is_unlike_pair T
  refine ⟨_, (pss_one (ps_ret (pe_and (pe_call (G_is_list_or_tuple) (hr.mono (by omega)) rfl T.m_is_list_or_tuple T.F_is_list_or_tuple.kp T.b_is_list_or_tuple .nil pass0 (pa_cons (pv 1) pa_nil)) (pe_one (pe_callB (cr_all rfl) (by rfl) T.n_all (by decide +kernel) (pa_cons (pe_lc (own := [("pair", 2)]) (g := (gName 2)) (tt := tYes) rfl sc_are_pairs.nd (pi_seq (pv 1)) (blkOk_by (N := N_are_pairs) (sc := defScope s_are_pairs) (by decide +kernel)) (fun _ _ _ _ _ => (pg_name (i := 2) sc_are_pairs.nd rfl (by first | exact Or.inl rfl | exact Or.inr rfl))) (fun _ _ _ _ _ => pts_nil) (fun _ _ _ _ _ => (pe_call (G_is_unlike_pair) (hr.mono (by omega)) rfl T.m_is_unlike_pair T.F_is_unlike_pair.kp T.b_is_unlike_pair .nil pass0 (pa_cons (pv 0) (pa_cons (pv 2) pa_nil))))) pa_nil)))))), ?_⟩
  walk_at "ws"
  refine ⟨p, us, rfl, hp, fun H1 g1 => ?_⟩
  walk_at "ws"
  obtain ⟨xs, hx, hd⟩ := hp.n g1
  have hxl : xs.length = us.length := by rw [DpAll.length hd, List.length_map]
  -- one turn, and the end, for both kinds
  have turn : ∀ (i : Nat) (x : V) (H2 : Hp), G none H1 H2 → xs[i]? = some x → ∃ (q : Addr) (u : Int × Int), x = .ref q ∧ SqT K H2 q [.int u.1, .int u.2] ∧ (inB m u.1 && inB m u.2 && !decide (u.1 = u.2)) = true := by
    intro i x H2 g2 hx
    obtain ⟨d, hd1, hd2⟩ := DpAll.get hd hx
    rw [List.getElem?_map] at hd1
    obtain ⟨u, hu1, rfl⟩ := Option.map_eq_some_iff.mp hd1
    obtain ⟨q, rfl, hq⟩ := dp_dP hd2
    exact ⟨q, u, rfl, sqT_t g2.tups hq, (hu u (List.mem_of_getElem? hu1)).bool⟩
  rcases hx with hx | hx
  · refine ⟨p, rfl, .inl ⟨⟨xs, hx⟩, ?_⟩⟩
    intro D hD
    refine lc_pure (K := K) (o := none) (walk_list (xs := xs)) (by omega) hD (fun _ e => nomatch e) (fun _ => some (PyData.bool true)) (fun H' g => sqL_n g hx) ?_ ?_
    · rintro i x _ H2 hi g2 ⟨rfl, hx1⟩ Qy Qn ky kn
      walk_at "ws"
      refine ⟨rfl, ?_⟩
      walk_at "ws"
      obtain ⟨q, u, rfl, hq, e⟩ := turn i x _ g2 hx1
      refine ⟨m, q, u.1, u.2, rfl, hq, fun H3 g3 => ?_⟩
      rw [e]
      exact ky _ _ _ g3 (.bl true) rfl rfl
    · intro xs' H' g hD' hds' _
      obtain ⟨bs, rfl, eb⟩ := bools_true hds'
      walk_at "ws"
      refine ⟨D, bs, rfl, SqL.of hD', ?_⟩
      rw [eb]
      exact k _ (g1.trans g)
  · refine ⟨p, rfl, .inr ⟨⟨xs, hx⟩, ?_⟩⟩
    intro D hD
    refine lc_pure (K := K) (o := none) (walk_tup (xs := xs)) (by omega) hD (fun _ e => nomatch e) (fun _ => some (PyData.bool true)) (fun H' g => sqT_t g.tups hx) ?_ ?_
    · rintro i x _ H2 hi g2 ⟨rfl, hx1⟩ Qy Qn ky kn
      walk_at "ws"
      refine ⟨rfl, ?_⟩
      walk_at "ws"
      obtain ⟨q, u, rfl, hq, e⟩ := turn i x _ g2 hx1
      refine ⟨m, q, u.1, u.2, rfl, hq, fun H3 g3 => ?_⟩
      rw [e]
      exact ky _ _ _ g3 (.bl true) rfl rfl
    · intro xs' H' g hD' hds' _
      obtain ⟨bs, rfl, eb⟩ := bools_true hds'
      walk_at "ws"
      refine ⟨D, bs, rfl, SqL.of hD', ?_⟩
      rw [eb]
      exact k _ (g1.trans g)

end
end Mine
/-! ## K10 -/


namespace Mine
section
variable {P : Program} {w : World} {K : PySem.W.Frag} {mg : Str → Option Value} {base : Heap} {a : Ads}

/-! ### webs by words -/
def dbl (us : List (Int × Int)) : List (Int × Int) := us.flatMap fun u => [u, (u.2, u.1)]
theorem dbl_len (us : List (Int × Int)) : (dbl us).length = 2 * us.length := by
  induction us with
  | nil => rfl
  | cons u us ih =>
    have e : dbl (u :: us) = u :: (u.2, u.1) :: dbl us := rfl
    rw [e, List.length_cons, List.length_cons, List.length_cons, ih]
    omega
theorem dbl_mem (us : List (Int × Int)) (v : Int × Int) : v ∈ dbl us ↔ v ∈ us ∨ (v.2, v.1) ∈ us := by
  unfold dbl
  rw [List.mem_flatMap]
  constructor
  · rintro ⟨u, hu, hv⟩
    rcases List.mem_cons.mp hv with e | hv
    · exact .inl (e ▸ hu)
    · have e : v = (u.2, u.1) := by simpa using hv
      subst e
      exact .inr hu
  · rintro (h | h)
    · exact ⟨v, h, by simp⟩
    · exact ⟨_, h, by simp⟩
theorem dbl_take {us : List (Int × Int)} {i : Nat} {u : Int × Int} (h : us[i]? = some u) : dbl (us.take (i + 1)) = dbl (us.take i) ++ [u, (u.2, u.1)] := by
  unfold dbl
  rw [List.take_add_one, h, List.flatMap_append]
  rfl
def NewWeb (K : PySem.W.Frag) (C : Addr) (H : Hp) (Q : VK) (m : Int) (M : Int × Int → Prop) : Prop := ∀ x (ws : List (Int × Int)) H', H x = none → G none H H' → WebAt K C H' x m ws → IsWeb m ws → (∀ u, u ∈ ws ↔ M u) → Q (.ref x) H'
theorem okP.in64 {m : Int} (hm : m ≤ 7) {u : Int × Int} (h : okP m u) : in64 u := by
  unfold okP at h
  unfold GA.in64
  omega
theorem okP.swap {m : Int} {u : Int × Int} (h : okP m u) : okP m (u.2, u.1) := ⟨h.2.1, h.1, fun e => h.2.2 e.symm⟩
theorem isweb_of {m : Int} {ws us : List (Int × Int)} (m1 : 1 ≤ m) (m7 : m ≤ 7) (asc : ws.Pairwise ltP) (mem : ∀ u, u ∈ ws → u ∈ us) (h : ∀ u ∈ us, okP m u) : IsWeb m ws := ⟨m1, m7, fun u hu => h u (mem u hu), asc⟩
def sp_there_and_back (K : PySem.W.Frag) : Sp := fun vs H Q _ => ∃ (p : Addr) (us : List (Int × Int)), vs = [.ref p] ∧ PL K H p us ∧ us.length ≤ 31 ∧ ∀ D H', H D = none → Fil K none H H' D (dbl us) → Q (.ref D) H'
theorem ok_there_and_back (T : Txt K mg a) : FnOk P w K mg base CX0 1 a.f_there_and_back a.d_there_and_back P_there_and_back (sp_there_and_back K) := by
  refine T.F_there_and_back.ok sc_there_and_back (fun vs H Q E h => by obtain ⟨p, us, rfl, _⟩ := h; rfl) (fun cdv A outer s H vs Q E hr h => ?_)
  obtain ⟨p, us, rfl, hp, hz, k⟩ := h
  refine ⟨_, (pss_one (ps_ret (pe_lc2 (own := [("one", 1), ("other", 2), ("wire", 3)]) (vs1 := [3]) (g := (gTup K 2 (gCons (gName 1) (gCons (gName 2) gNil)))) (g1 := (gName 3)) (tt := tYes) (tt1 := tYes) rfl sc_there_and_back.nd (pi_seq (pv 0)) (blkOk_by (N := N_there_and_back) (sc := defScope s_there_and_back) (by decide +kernel)) (by decide) (fun _ _ _ _ _ => (pg_tup rfl (pgs_cons (pg_name (i := 1) sc_there_and_back.nd rfl (by first | exact Or.inl rfl | exact Or.inr rfl)) (pgs_cons (pg_name (i := 2) sc_there_and_back.nd rfl (by first | exact Or.inl rfl | exact Or.inr rfl)) pgs_nil)))) (fun _ _ _ _ _ => pts_nil) (fun _ _ _ _ _ => (k_pi_tup K (pe_tupN (pa_cons (pe_tupN (pa_cons (pv 1) (pa_cons (pv 2) pa_nil))) (pa_cons (pe_tupN (pa_cons (pv 2) (pa_cons (pv 1) pa_nil))) pa_nil))))) (fun _ _ _ _ _ => (pg_name (i := 3) sc_there_and_back.nd rfl (by first | exact Or.inl rfl | exact Or.inr rfl))) (fun _ _ _ _ _ => pts_nil) (fun _ _ _ _ _ => (pv 3))))), ?_⟩
  walk_at "ws"
  obtain ⟨xs, hx, hd⟩ := hp
  have hxl : xs.length = us.length := by rw [DpAll.length hd, List.length_map]
  have turn : ∀ (D : Addr) (i : Nat) (x : V) (H2 : Hp), Fil K none H H2 D (dbl (us.take i)) → xs[i]? = some x → ∃ (q : Addr) (u : Int × Int), x = .ref q ∧ SqT K H2 q [.int u.1, .int u.2] ∧ us[i]? = some u := by
    intro D i x H2 f hx
    obtain ⟨d, hd1, hd2⟩ := DpAll.get hd hx
    rw [List.getElem?_map] at hd1
    obtain ⟨u, hu1, rfl⟩ := Option.map_eq_some_iff.mp hd1
    obtain ⟨q, rfl, hq⟩ := dp_dP hd2
    exact ⟨q, u, rfl, sqT_t f.1.tups hq, hu1⟩
  rcases hx with hx | hx
  · refine ⟨p, rfl, .inl ⟨⟨xs, hx⟩, ?_⟩⟩
    intro D hD
    refine lc2_it (walk_list (xs := xs)) (fun i H2 => Fil K none H H2 D (dbl (us.take i))) (Fil.nil G.refl hD fun _ e => nomatch e) (fun i H2 _ f => sqL_n f.1 hx) ?_ ?_
    · rintro i x _ H2 hi f ⟨rfl, hx1⟩
      obtain ⟨q, u, rfl, hq, hui⟩ := turn D i x _ f hx1
      refine ⟨q, _, rfl, hq, rfl, ?_⟩
      refine ⟨_, _, rfl, ?_⟩
      walk_at "ws"
      refine ⟨_, _, rfl, ?_⟩
      walk_at "ws"
      refine ⟨rfl, rfl, ?_⟩
      walk_at "ws"
      refine ⟨sz (by simp), fun t1 H3 ht1 g3 h3 => ?_⟩
      walk_at "ws"
      refine ⟨sz (by simp), fun t2 H4 ht2 g4 h4 => ?_⟩
      walk_at "ws"
      refine ⟨sz (by simp), fun t3 H5 ht3 g5 h5 => ?_⟩
      refine i_tup (SqT.of h5) ?_
      have f5 := f.g (((g3 none).trans (g4 none)).trans (g5 none)) off_none
      have d1 : Dp K H5 (.ref t1) (dP u) := dp_ofP (SqT.of (((g4 none).trans (g5 none)).all _ _ h3))
      have d2 : Dp K H5 (.ref t2) (dP (u.2, u.1)) := dp_ofP (SqT.of ((g5 none).all _ _ h4))
      have zl : (dbl (us.take i)).length ≤ 1000 := by rw [dbl_len, List.length_take]; omega
      refine in_it (walk_tup (xs := [V.ref t1, V.ref t2])) (fun j H6 => Ts H5 H6 ∧ Fil K none H H6 D (dbl (us.take i) ++ [u, (u.2, u.1)].take j)) ⟨fun _ _ h => h, by rw [List.take_zero, List.append_nil]; exact f5⟩ (fun j H6 _ f => sqT_t f.1 (SqT.of h5)) ?_ ?_
      · rintro j y _ H6 hj ⟨g6, f6⟩ ⟨rfl, hy⟩
        refine ⟨rfl, ?_⟩
        walk_at "ws"
        have hc : (j = 0 ∧ y = .ref t1) ∨ (j = 1 ∧ y = .ref t2) := by
          match j, hj, hy with
          | 0, _, hy => exact .inl ⟨rfl, (Option.some.inj hy).symm⟩
          | 1, _, hy => exact .inr ⟨rfl, (Option.some.inj hy).symm⟩
        rcases hc with ⟨rfl, rfl⟩ | ⟨rfl, rfl⟩
        · obtain ⟨acc, z1, z2, z3⟩ := f6.app hD (fun _ e => nomatch e) (dp_t g6 _ _ (nl_dP _) d1) (by simp; omega)
          exact ⟨acc, z1, z2, g6.trans (Ts.updl z1), by simpa using z3⟩
        · obtain ⟨acc, z1, z2, z3⟩ := f6.app hD (fun _ e => nomatch e) (dp_t g6 _ _ (nl_dP _) d2) (by simp; omega)
          exact ⟨acc, z1, z2, g6.trans (Ts.updl z1), by simpa using z3⟩
      · intro H6 f6
        have f6 := f6.2
        rw [dbl_take hui]
        exact f6
    · intro H2 f
      rw [hxl, List.take_of_length_le (Nat.le_refl _)] at f
      walk_at "ws"
      exact k D H2 hD f
  · refine ⟨p, rfl, .inr ⟨⟨xs, hx⟩, ?_⟩⟩
    intro D hD
    refine lc2_it (walk_tup (xs := xs)) (fun i H2 => Fil K none H H2 D (dbl (us.take i))) (Fil.nil G.refl hD fun _ e => nomatch e) (fun i H2 _ f => sqT_t f.1.tups hx) ?_ ?_
    · rintro i x _ H2 hi f ⟨rfl, hx1⟩
      obtain ⟨q, u, rfl, hq, hui⟩ := turn D i x _ f hx1
      refine ⟨q, _, rfl, hq, rfl, ?_⟩
      refine ⟨_, _, rfl, ?_⟩
      walk_at "ws"
      refine ⟨_, _, rfl, ?_⟩
      walk_at "ws"
      refine ⟨rfl, rfl, ?_⟩
      walk_at "ws"
      refine ⟨sz (by simp), fun t1 H3 ht1 g3 h3 => ?_⟩
      walk_at "ws"
      refine ⟨sz (by simp), fun t2 H4 ht2 g4 h4 => ?_⟩
      walk_at "ws"
      refine ⟨sz (by simp), fun t3 H5 ht3 g5 h5 => ?_⟩
      refine i_tup (SqT.of h5) ?_
      have f5 := f.g (((g3 none).trans (g4 none)).trans (g5 none)) off_none
      have d1 : Dp K H5 (.ref t1) (dP u) := dp_ofP (SqT.of (((g4 none).trans (g5 none)).all _ _ h3))
      have d2 : Dp K H5 (.ref t2) (dP (u.2, u.1)) := dp_ofP (SqT.of ((g5 none).all _ _ h4))
      have zl : (dbl (us.take i)).length ≤ 1000 := by rw [dbl_len, List.length_take]; omega
      refine in_it (walk_tup (xs := [V.ref t1, V.ref t2])) (fun j H6 => Ts H5 H6 ∧ Fil K none H H6 D (dbl (us.take i) ++ [u, (u.2, u.1)].take j)) ⟨fun _ _ h => h, by rw [List.take_zero, List.append_nil]; exact f5⟩ (fun j H6 _ f => sqT_t f.1 (SqT.of h5)) ?_ ?_
      · rintro j y _ H6 hj ⟨g6, f6⟩ ⟨rfl, hy⟩
        refine ⟨rfl, ?_⟩
        walk_at "ws"
        have hc : (j = 0 ∧ y = .ref t1) ∨ (j = 1 ∧ y = .ref t2) := by
          match j, hj, hy with
          | 0, _, hy => exact .inl ⟨rfl, (Option.some.inj hy).symm⟩
          | 1, _, hy => exact .inr ⟨rfl, (Option.some.inj hy).symm⟩
        rcases hc with ⟨rfl, rfl⟩ | ⟨rfl, rfl⟩
        · obtain ⟨acc, z1, z2, z3⟩ := f6.app hD (fun _ e => nomatch e) (dp_t g6 _ _ (nl_dP _) d1) (by simp; omega)
          exact ⟨acc, z1, z2, g6.trans (Ts.updl z1), by simpa using z3⟩
        · obtain ⟨acc, z1, z2, z3⟩ := f6.app hD (fun _ e => nomatch e) (dp_t g6 _ _ (nl_dP _) d2) (by simp; omega)
          exact ⟨acc, z1, z2, g6.trans (Ts.updl z1), by simpa using z3⟩
      · intro H6 f6
        have f6 := f6.2
        rw [dbl_take hui]
        exact f6
    · intro H2 f
      rw [hxl, List.take_of_length_le (Nat.le_refl _)] at f
      walk_at "ws"
      exact k D H2 hD f

def sp_both_ways (K : PySem.W.Frag) (C : Addr) : Sp := fun vs H Q _ => ∃ (m : Int) (p : Addr) (us : List (Int × Int)), vs = [.int m, .ref p] ∧ PL K H p us ∧ (∀ u ∈ us, okP m u) ∧ us.length ≤ 31 ∧ 1 ≤ m ∧ m ≤ 7 ∧ NewWeb K C H Q m (fun u => u ∈ us ∨ (u.2, u.1) ∈ us)
theorem ok_both_ways (T : Txt K mg a) : FnOk P w K mg base CX0 10 a.f_both_ways a.d_both_ways P_both_ways (sp_both_ways K a.c_Web) := by
  refine T.F_both_ways.ok sc_both_ways (fun vs H Q E h => by obtain ⟨m, p, us, rfl, _⟩ := h; rfl) (fun cdv A outer s H vs Q E hr h => ?_)
  obtain ⟨m, p, us, rfl, hp, hu, hz, m1, m7, k⟩ := h
  have G_check_number : FnOk P w K mg base CX0 3 a.f_check_number a.d_check_number P_check_number sp_check_number := ok_check_number T
  have G_are_pairs : FnOk P w K mg base CX0 6 a.f_are_pairs a.d_are_pairs P_are_pairs (sp_are_pairs K) := ok_are_pairs T
  have G_web_of_any_size : FnOk P w K mg base CX0 9 a.f_web_of_any_size a.d_web_of_any_size P_web_of_any_size (sp_web_of_any_size K a.c_Web) := ok_web_of_any_size T
  have G_there_and_back : FnOk P w K mg base CX0 1 a.f_there_and_back a.d_there_and_back P_there_and_back (sp_there_and_back K) := ok_there_and_back T
  refine ⟨_, (pss_cons (ps_expr (pe_call (G_check_number) (hr.mono (by omega)) rfl T.m_check_number T.F_check_number.kp T.b_check_number .nil pass0 (pa_cons pe_int (pa_cons (pv 0) pa_nil))))
  (pss_cons (ps_if (pt_not (pt_val (pe_call (G_are_pairs) (hr.mono (by omega)) rfl T.m_are_pairs T.F_are_pairs.kp T.b_are_pairs .nil pass0 (pa_cons (pv 0) (pa_cons (pv 1) pa_nil)))))
    pss_never
    pss_nil)
  (pss_one (ps_ret (pe_call (G_web_of_any_size) (hr.mono (by omega)) rfl T.m_web_of_any_size T.F_web_of_any_size.kp T.b_web_of_any_size .nil pass0 (pa_cons (pv 0) (pa_cons (pe_call (G_there_and_back) (hr.mono (by omega)) rfl T.m_there_and_back T.F_there_and_back.kp T.b_there_and_back .nil pass0 (pa_cons (pv 1) pa_nil)) pa_nil))))))), ?_⟩
  walk_at "ws"
  refine ⟨1, m, rfl, m1, m7, ?_⟩
  walk_at "ws"
  refine ⟨m, p, us, rfl, hp, hu, by omega, fun H1 g1 => ?_⟩
  walk_at "ws"
  have done : ∀ (D : Addr) (H2 : Hp), H1 D = none → Fil K none H1 H2 D (dbl us) → sp_web_of_any_size K a.c_Web [V.int m, .ref D] H2 Q E := by
    intro D H2 hD f
    obtain ⟨g2, ys, h2, hys⟩ := f
    refine ⟨m, D, ys, dbl us, rfl, .inl (SqL.of h2), hys, by rw [dbl_len]; omega, fun u h => ?_, fun x ws H3 hx3 g3 w3 asc mem => ?_⟩
    · rcases (dbl_mem us u).mp h with h | h
      · exact (hu u h).in64 m7
      · exact (hu _ h).swap.in64 m7
    · refine k x ws H3 (back_none (g1.trans g2) hx3) ((g1.trans g2).trans g3) w3 (isweb_of m1 m7 asc (fun u h => (mem u).mp h) fun u h => ?_) fun u => by rw [mem, dbl_mem]
      rcases (dbl_mem us u).mp h with h | h
      · exact hu u h
      · exact (hu _ h).swap
  refine ⟨p, us, rfl, hp.n g1, hz, fun D H2 hD f => ?_⟩
  walk_at "ws"
  exact done D H2 hD f

end
end Mine
/-! ## K11 -/


namespace Mine
section
variable {P : Program} {w : World} {K : PySem.W.Frag} {mg : Str → Option Value} {base : Heap} {a : Ads}

/-- the pairs of neighbours -/
def nb (n : Nat) : List (Int × Int) := (List.range n).map fun (i : Nat) => ((i : Int), (i : Int) + 1)
theorem nb_ok {m : Int} {n : Nat} (h : (n : Int) + 1 ≤ m) : ∀ u ∈ nb n, okP m u := by
  intro u hu
  obtain ⟨i, hi, rfl⟩ := List.mem_map.mp hu
  have := List.mem_range.mp hi
  refine ⟨⟨?_, ?_⟩, ⟨?_, ?_⟩, ?_⟩ <;> simp only <;> omega
def sp_neighbours (K : PySem.W.Frag) : Sp := fun vs H Q _ => ∃ m : Int, vs = [.int m] ∧ 1 ≤ m ∧ m ≤ 7 ∧ ∀ D xs H', H D = none → G none H H' → H' D = some (.lst xs) → DpAll K H' xs ((nb (m - 1).toNat).map dP) → Q (.ref D) H'
theorem ok_neighbours (T : Txt K mg a) : FnOk P w K mg base CX0 1 a.f_neighbours a.d_neighbours P_neighbours (sp_neighbours K) := by
  refine T.F_neighbours.ok sc_neighbours (fun vs H Q E h => by obtain ⟨m, rfl, _⟩ := h; rfl) (fun cdv A outer s H vs Q E hr h => ?_)
  obtain ⟨m, rfl, m1, m7, k⟩ := h
  obtain ⟨n, rfl⟩ : ∃ n : Nat, m = (n : Int) + 1 := ⟨(m - 1).toNat, by omega⟩
  have en : ((n : Int) + 1 - 1).toNat = n := by omega
  rw [en] at k
  refine ⟨_, (pss_one (ps_ret (pe_lc (own := [("one", 1)]) (g := (gName 1)) (tt := tYes) rfl sc_neighbours.nd (pi_range1 rfl T.n_range (pa_cons (pe_op op_sub (pv 0) pe_int) pa_nil)) (blkOk_by (N := N_neighbours) (sc := defScope s_neighbours) (by decide +kernel)) (fun _ _ _ _ _ => (pg_name (i := 1) sc_neighbours.nd rfl (by first | exact Or.inl rfl | exact Or.inr rfl))) (fun _ _ _ _ _ => pts_nil) (fun _ _ _ _ _ => (pe_tupN (pa_cons (pv 1) (pa_cons (pe_op op_add (pv 1) pe_int) pa_nil))))))), ?_⟩
  walk_at "ws"
  refine i_rng1 (by omega) (by omega) ?_
  rw [en]
  intro D hD
  refine lc_pure (K := K) (o := none) walk_range (by omega) hD (fun _ e => nomatch e) (fun (i : Nat) => some (dP ((i : Int), (i : Int) + 1))) (fun _ _ => trivial) ?_ ?_
  · rintro i _ _ H2 hi g2 ⟨rfl, rfl⟩ Qy Qn ky kn
    walk_at "ws"
    refine ⟨rfl, ?_⟩
    walk_at "ws"
    refine ⟨sz (by simp), fun t H3 ht g3 h3 => ?_⟩
    exact ky _ _ _ (g3 none) (dp_ofP (SqT.of h3)) (nl_dP _) (by rw [Int.zero_add])
  · intro xs H2 g2 hD2 hds _
    have e : (List.range n).filterMap (fun (i : Nat) => some (dP ((i : Int), (i : Int) + 1))) = (nb n).map dP := by
      unfold nb
      rw [List.map_map, ← List.filterMap_eq_map]
      rfl
    rw [e] at hds
    walk_at "ws"
    exact k D xs H2 hD g2 hD2 hds

/-- all of them -/
def sp_full (K : PySem.W.Frag) (C : Addr) : Sp := fun vs H Q _ => ∃ m : Int, vs = [.int m] ∧ 1 ≤ m ∧ m ≤ 7 ∧ NewWeb K C H Q m (okP m)
/-- all wires but those to oneself: the first k begins -/
def row (m : Nat) (y : Nat) (k : Nat) : List (Int × Int) := ((List.range k).filter fun (x : Nat) => decide (y ≠ x)).map fun (x : Nat) => ((y : Int), (x : Int))
def allw (m k : Nat) : List (Int × Int) := (List.range k).flatMap fun (y : Nat) => row m y m
theorem row_succ (m y k : Nat) : row m y (k + 1) = row m y k ++ (if y = k then [] else [((y : Int), (k : Int))]) := by
  unfold row
  rw [List.range_succ, List.filter_append, List.map_append]
  congr 1
  by_cases c : y = k <;> simp [c]
theorem row_len (m y k : Nat) : (row m y k).length ≤ k := by
  unfold row
  rw [List.length_map]
  have := List.length_filter_le (fun (x : Nat) => decide (y ≠ x)) (List.range k)
  rw [List.length_range] at this
  exact this
theorem allw_succ (m k : Nat) : allw m (k + 1) = allw m k ++ row m k m := by
  unfold allw
  rw [List.range_succ, List.flatMap_append]
  simp
theorem allw_len (m : Nat) : ∀ k, (allw m k).length ≤ k * m
  | 0 => by simp [allw]
  | k + 1 => by
    rw [allw_succ, List.length_append, Nat.succ_mul]
    have := allw_len m k
    have := row_len m k m
    omega
theorem allw_mem (m : Nat) (u : Int × Int) : u ∈ allw m m ↔ okP m u := by
  unfold allw row okP
  rw [List.mem_flatMap]
  constructor
  · rintro ⟨y, hy, hu⟩
    obtain ⟨x, hx, rfl⟩ := List.mem_map.mp hu
    have h1 := List.mem_range.mp hy
    have h2 := List.mem_filter.mp hx
    have h3 := List.mem_range.mp h2.1
    have h4 : y ≠ x := by simpa using h2.2
    simp only
    omega
  · rintro ⟨h1, h2, h3⟩
    refine ⟨u.1.toNat, List.mem_range.mpr (by omega), List.mem_map.mpr ⟨u.2.toNat, List.mem_filter.mpr ⟨List.mem_range.mpr (by omega), by simp; omega⟩, ?_⟩⟩
    exact Prod.ext (by simp only; omega) (by simp only; omega)
def sp_web_of_all_wires (K : PySem.W.Frag) (C : Addr) : Sp := fun vs H Q _ => ∃ m : Int, vs = [.int m] ∧ 1 ≤ m ∧ m ≤ 7 ∧ NewWeb K C H Q m (okP m)
theorem ok_web_of_all_wires (T : Txt K mg a) : FnOk P w K mg base CX0 10 a.f_web_of_all_wires a.d_web_of_all_wires P_web_of_all_wires (sp_web_of_all_wires K a.c_Web) := by
  refine T.F_web_of_all_wires.ok sc_web_of_all_wires (fun vs H Q E h => by obtain ⟨m, rfl, _⟩ := h; rfl) (fun cdv A outer s H vs Q E hr h => ?_)
  obtain ⟨m, rfl, m1, m7, k⟩ := h
  have G_web_of_any_size : FnOk P w K mg base CX0 9 a.f_web_of_any_size a.d_web_of_any_size P_web_of_any_size (sp_web_of_any_size K a.c_Web) := ok_web_of_any_size T
  obtain ⟨n, rfl⟩ : ∃ n : Nat, m = (n : Int) := ⟨m.toNat, by omega⟩
  refine ⟨_, (pss_one (ps_ret (pe_call (G_web_of_any_size) (hr.mono (by omega)) rfl T.m_web_of_any_size T.F_web_of_any_size.kp T.b_web_of_any_size .nil pass0 (pa_cons (pv 0) (pa_cons (pe_lc2 (own := [("y", 1), ("x", 2)]) (vs1 := [2]) (g := (gName 1)) (g1 := (gName 2)) (tt := tYes) rfl sc_web_of_all_wires.nd (pi_range1 rfl T.n_range (pa_cons (pv 0) pa_nil)) (blkOk_by (N := N_web_of_all_wires) (sc := defScope s_web_of_all_wires) (by decide +kernel)) (by decide) (fun _ _ _ _ _ => (pg_name (i := 1) sc_web_of_all_wires.nd rfl (by first | exact Or.inl rfl | exact Or.inr rfl))) (fun _ _ _ _ _ => pts_nil) (fun _ _ _ _ _ => (pi_range1 rfl T.n_range (pa_cons (pv 0) pa_nil))) (fun _ _ _ _ _ => (pg_name (i := 2) sc_web_of_all_wires.nd rfl (by first | exact Or.inl rfl | exact Or.inr rfl))) (fun _ _ _ _ _ => (pts_one (pt_cmpR op_ne (pv 1) (pv 2) (nomark _)))) (fun _ _ _ _ _ => (pe_tupN (pa_cons (pv 1) (pa_cons (pv 2) pa_nil))))) pa_nil))))), ?_⟩
  walk_at "ws"
  refine i_rng1 (by omega) (by omega) ?_
  rw [Int.toNat_natCast]
  intro D hD
  have lall : ∀ i, i ≤ n → (allw n i).length ≤ 49 := fun i hi => by
    have h1 := allw_len n i
    have h2 : i * n ≤ 7 * 7 := Nat.mul_le_mul (by omega) (by omega)
    omega
  refine lc2_it walk_range (fun i H2 => Fil K none H H2 D (allw n i)) (Fil.nil G.refl hD fun _ e => nomatch e) (fun _ _ _ _ => trivial) ?_ ?_
  · rintro y _ _ H2 hy f ⟨rfl, rfl⟩
    walk_at "ws"
    refine ⟨rfl, ?_⟩
    walk_at "ws"
    refine i_rng1 (by omega) (by omega) ?_
    rw [Int.toNat_natCast]
    refine in_it walk_range (fun i H3 => Fil K none H H3 D (allw n y ++ row n y i)) (by simpa [row] using f) (fun _ _ _ _ => trivial) ?_ ?_
    · rintro i _ _ H3 hi f3 ⟨rfl, rfl⟩
      walk_at "ws"
      refine ⟨rfl, ?_⟩
      walk_at "ws"
      refine w_ite (fun e => ?_) (fun e => ?_)
      · have e : ¬ y = i := by
          intro z
          subst z
          simp at e
        walk_at "ws"
        refine ⟨sz (by simp), fun t H4 ht g4 h4 => ?_⟩
        have f4 := f3.g (g4 none) off_none
        have hdt : Dp K H4 (.ref t) (dP ((y : Int), (i : Int))) := dp_ofP (by
          have z := SqT.of (K := K) h4
          simp only [Int.zero_add] at z
          exact z)
        obtain ⟨acc, z1, z2, z3⟩ := f4.app hD (fun _ e => nomatch e) hdt (by
          have h1 := lall y (by omega)
          have h2 := row_len n y i
          rw [List.length_append]; omega)
        refine ⟨acc, z1, z2, ?_⟩
        rw [row_succ, if_neg e, ← List.append_assoc]
        exact z3
      · have e : y = i := by
          simp at e
          omega
        rw [row_succ, if_pos e, List.append_nil]
        exact f3
    · intro H3 f3
      rw [allw_succ]
      exact f3
  · intro H2 f
    walk_at "ws"
    obtain ⟨g2, ys, h2, hys⟩ := f
    have mok : ∀ u ∈ allw n n, okP n u := fun u hu => (allw_mem n u).mp hu
    refine ⟨n, D, ys, allw n n, rfl, .inl (SqL.of h2), hys, Nat.lt_of_le_of_lt (lall n (Nat.le_refl _)) (by decide), fun u hu => (mok u hu).in64 m7, fun x ws H3 hx3 g3 w3 asc mem => ?_⟩
    refine k x ws H3 (back_none g2 hx3) (g2.trans g3) w3 (isweb_of m1 m7 asc (fun u h => (mem u).mp h) mok) fun u => by rw [mem, allw_mem]
theorem ok_full (T : Txt K mg a) : FnOk P w K mg base CX0 11 a.f_full a.d_full P_full (sp_full K a.c_Web) := by
  refine T.F_full.ok sc_full (fun vs H Q E h => by obtain ⟨m, rfl, _⟩ := h; rfl) (fun cdv A outer s H vs Q E hr h => ?_)
  obtain ⟨m, rfl, m1, m7, k⟩ := h
  have G_check_number : FnOk P w K mg base CX0 3 a.f_check_number a.d_check_number P_check_number sp_check_number := ok_check_number T
  have G_web_of_all_wires : FnOk P w K mg base CX0 10 a.f_web_of_all_wires a.d_web_of_all_wires P_web_of_all_wires (sp_web_of_all_wires K a.c_Web) := ok_web_of_all_wires T
  refine ⟨_, (pss_cons (ps_expr (pe_call (G_check_number) (hr.mono (by omega)) rfl T.m_check_number T.F_check_number.kp T.b_check_number .nil pass0 (pa_cons pe_int (pa_cons (pv 0) pa_nil))))
  (pss_one (ps_ret (pe_call (G_web_of_all_wires) (hr.mono (by omega)) rfl T.m_web_of_all_wires T.F_web_of_all_wires.kp T.b_web_of_all_wires .nil pass0 (pa_cons (pv 0) pa_nil))))), ?_⟩
  walk_at "ws"
  refine ⟨1, m, rfl, m1, m7, ?_⟩
  walk_at "ws"
  exact ⟨m, rfl, m1, m7, k⟩

end
end Mine
/-! ## K12 -/


namespace Mine
section
variable {P : Program} {w : World} {K : PySem.W.Frag} {mg : Str → Option Value} {base : Heap} {a : Ads}

def rNotInDT (K : PySem.W.Frag) : R2 := fun x y H Q => ∃ d ds, Dp K H x d ∧ Dp K H y (.tuple ds) ∧ SeqAt.shaped d = true ∧ SeqAt.shaped (.tuple ds) = true ∧ Q (.bl (!(ds.any fun z => PyData.eqv z d))) H
theorem op_notInDT {X : Cx} (hu : X.A.units + 65 < cLine) : OpR X (compareOp .NotIn) (rNotInDT X.K) := by
  intro pins s σ H x y v u Q I rx ry ⟨d, ds, hd, he, sd, se, q⟩
  obtain ⟨as, r1⟩ := Dp.reads I d x v hd rx
  obtain ⟨bs, r2⟩ := Dp.reads I (.tuple ds) y u he ry
  exact SeqAt.notIn_tuple_reads r2 r1 (SeqAt.canLay_of_shaped se) (SeqAt.canLay_of_shaped sd) (PyProof.Rows.room_in_shaped sd hu) ⟨.bl _, H, I, rfl, q⟩
def hubP (m : Int) (u : Int × Int) : Prop := okP m u ∧ (u.1 = 0 ∨ u.2 = 0)
def hubL (n : Nat) : List (Int × Int) := (List.range n).map fun (i : Nat) => ((0 : Int), 1 + (i : Int))
def sp_hub (K : PySem.W.Frag) (C : Addr) : Sp := fun vs H Q _ => ∃ m : Int, vs = [.int m] ∧ 1 ≤ m ∧ m ≤ 7 ∧ NewWeb K C H Q m (hubP m)
theorem hubL_mem (n : Nat) (u : Int × Int) : u ∈ hubL n ↔ u.1 = 0 ∧ 1 ≤ u.2 ∧ u.2 < n + 1 := by
  unfold hubL
  rw [List.mem_map]
  constructor
  · rintro ⟨i, hi, rfl⟩
    have := List.mem_range.mp hi
    exact ⟨rfl, by show (1 : Int) ≤ 1 + (i : Int); omega, by show 1 + (i : Int) < (n : Int) + 1; omega⟩
  · rintro ⟨h1, h2, h3⟩
    exact ⟨(u.2 - 1).toNat, List.mem_range.mpr (by omega), Prod.ext (by simp only; omega) (by simp only; omega)⟩
theorem ok_hub (T : Txt K mg a) : FnOk P w K mg base CX0 11 a.f_hub a.d_hub P_hub (sp_hub K a.c_Web) := by
  refine T.F_hub.ok sc_hub (fun vs H Q E h => by obtain ⟨m, rfl, _⟩ := h; rfl) (fun cdv A outer s H vs Q E hr h => ?_)
  obtain ⟨m, rfl, m1, m7, k⟩ := h
  have G_check_number : FnOk P w K mg base CX0 3 a.f_check_number a.d_check_number P_check_number sp_check_number := ok_check_number T
  have G_both_ways : FnOk P w K mg base CX0 10 a.f_both_ways a.d_both_ways P_both_ways (sp_both_ways K a.c_Web) := ok_both_ways T
  obtain ⟨n, rfl⟩ : ∃ n : Nat, m = (n : Int) + 1 := ⟨(m - 1).toNat, by omega⟩
  have en : ((n : Int) + 1 - 1).toNat = n := by omega
  refine ⟨_, (pss_cons (ps_expr (pe_call (G_check_number) (hr.mono (by omega)) rfl T.m_check_number T.F_check_number.kp T.b_check_number .nil pass0 (pa_cons pe_int (pa_cons (pv 0) pa_nil))))
  (pss_one (ps_ret (pe_call (G_both_ways) (hr.mono (by omega)) rfl T.m_both_ways T.F_both_ways.kp T.b_both_ways .nil pass0 (pa_cons (pv 0) (pa_cons (pe_lc (own := [("other", 1)]) (g := (gName 1)) (tt := tYes) rfl sc_hub.nd (pi_range2 rfl T.n_range (pa_cons pe_int (pa_cons (pv 0) pa_nil))) (blkOk_by (N := N_hub) (sc := defScope s_hub) (by decide +kernel)) (fun _ _ _ _ _ => (pg_name (i := 1) sc_hub.nd rfl (by first | exact Or.inl rfl | exact Or.inr rfl))) (fun _ _ _ _ _ => pts_nil) (fun _ _ _ _ _ => (pe_tupN (pa_cons pe_int (pa_cons (pv 1) pa_nil))))) pa_nil)))))), ?_⟩
  walk_at "ws"
  refine ⟨1, _, rfl, m1, m7, ?_⟩
  walk_at "ws"
  refine i_rng2 (by omega) ?_
  rw [en]
  intro D hD
  refine lc_pure (K := K) (o := none) walk_range (by omega) hD (fun _ e => nomatch e) (fun (i : Nat) => some (dP ((0 : Int), 1 + (i : Int)))) (fun _ _ => trivial) ?_ ?_
  · rintro i _ _ H2 hi g2 ⟨rfl, rfl⟩ Qy Qn ky kn
    walk_at "ws"
    refine ⟨rfl, ?_⟩
    walk_at "ws"
    refine ⟨sz (by simp), fun t H3 ht g3 h3 => ?_⟩
    exact ky _ _ _ (g3 none) (dp_ofP (SqT.of h3)) (nl_dP _) rfl
  · intro xs H2 g2 hD2 hds _
    have e : (List.range n).filterMap (fun (i : Nat) => some (dP ((0 : Int), 1 + (i : Int)))) = (hubL n).map dP := by
      unfold hubL
      rw [List.map_map, ← List.filterMap_eq_map]
      rfl
    rw [e] at hds
    walk_at "ws"
    refine ⟨_, D, hubL n, rfl, .of hD2 hds, fun u hu => ?_, ?_, m1, m7, fun x ws H3 hx g3 w3 iw mem => ?_⟩
    · have := (hubL_mem n u).mp hu
      refine ⟨⟨?_, ?_⟩, ⟨?_, ?_⟩, ?_⟩ <;> omega
    · unfold hubL
      rw [List.length_map, List.length_range]; omega
    · refine k x ws H3 (back_none g2 hx) (g2.trans g3) w3 iw fun u => ?_
      rw [mem]
      show (u ∈ hubL n ∨ (u.2, u.1) ∈ hubL n) ↔ _
      rw [hubL_mem, hubL_mem]
      unfold hubP okP
      simp only
      omega

theorem nb_len (n : Nat) : (nb n).length = n := by
  unfold nb
  rw [List.length_map, List.length_range]
def lineP (m : Int) (u : Int × Int) : Prop := u ∈ nb (m - 1).toNat ∨ (u.2, u.1) ∈ nb (m - 1).toNat
def sp_line (K : PySem.W.Frag) (C : Addr) : Sp := fun vs H Q _ => ∃ m : Int, vs = [.int m] ∧ 1 ≤ m ∧ m ≤ 7 ∧ NewWeb K C H Q m (lineP m)
theorem ok_line (T : Txt K mg a) : FnOk P w K mg base CX0 11 a.f_line a.d_line P_line (sp_line K a.c_Web) := by
  refine T.F_line.ok sc_line (fun vs H Q E h => by obtain ⟨m, rfl, _⟩ := h; rfl) (fun cdv A outer s H vs Q E hr h => ?_)
  obtain ⟨m, rfl, m1, m7, k⟩ := h
  have G_check_number : FnOk P w K mg base CX0 3 a.f_check_number a.d_check_number P_check_number sp_check_number := ok_check_number T
  have G_both_ways : FnOk P w K mg base CX0 10 a.f_both_ways a.d_both_ways P_both_ways (sp_both_ways K a.c_Web) := ok_both_ways T
  have G_neighbours : FnOk P w K mg base CX0 1 a.f_neighbours a.d_neighbours P_neighbours (sp_neighbours K) := ok_neighbours T
  refine ⟨_, (pss_cons (ps_expr (pe_call (G_check_number) (hr.mono (by omega)) rfl T.m_check_number T.F_check_number.kp T.b_check_number .nil pass0 (pa_cons pe_int (pa_cons (pv 0) pa_nil))))
  (pss_one (ps_ret (pe_call (G_both_ways) (hr.mono (by omega)) rfl T.m_both_ways T.F_both_ways.kp T.b_both_ways .nil pass0 (pa_cons (pv 0) (pa_cons (pe_call (G_neighbours) (hr.mono (by omega)) rfl T.m_neighbours T.F_neighbours.kp T.b_neighbours .nil pass0 (pa_cons (pv 0) pa_nil)) pa_nil)))))), ?_⟩
  walk_at "ws"
  refine ⟨1, m, rfl, m1, m7, ?_⟩
  walk_at "ws"
  refine ⟨m, rfl, m1, m7, fun D xs H1 hD g1 h1 hds => ?_⟩
  walk_at "ws"
  refine ⟨m, D, nb (m - 1).toNat, rfl, .of h1 hds, nb_ok (by omega), by rw [nb_len]; omega, m1, m7, fun x ws H3 hx g3 w3 iw mem => ?_⟩
  exact k x ws H3 (back_none g1 hx) (g1.trans g3) w3 iw mem

def ringL (m : Int) : List (Int × Int) := nb (m - 1).toNat ++ [(m - 1, 0)]
def ringP (m : Int) (u : Int × Int) : Prop := u ∈ ringL m ∨ (u.2, u.1) ∈ ringL m
theorem ringL_ok {m : Int} (h : 3 ≤ m) : ∀ u ∈ ringL m, okP m u := by
  intro u hu
  rcases List.mem_append.mp hu with hu | hu
  · exact nb_ok (by omega) u hu
  · have e : u = (m - 1, 0) := by simpa using hu
    subst e
    refine ⟨⟨?_, ?_⟩, ⟨?_, ?_⟩, ?_⟩ <;> simp only <;> omega
def sp_ring (K : PySem.W.Frag) (C : Addr) : Sp := fun vs H Q _ => ∃ m : Int, vs = [.int m] ∧ 3 ≤ m ∧ m ≤ 7 ∧ NewWeb K C H Q m (ringP m)
theorem ok_ring (T : Txt K mg a) : FnOk P w K mg base CX0 11 a.f_ring a.d_ring P_ring (sp_ring K a.c_Web) := by
  refine T.F_ring.ok sc_ring (fun vs H Q E h => by obtain ⟨m, rfl, _⟩ := h; rfl) (fun cdv A outer s H vs Q E hr h => ?_)
  obtain ⟨m, rfl, m1, m7, k⟩ := h
  have G_check_number : FnOk P w K mg base CX0 3 a.f_check_number a.d_check_number P_check_number sp_check_number := ok_check_number T
  have G_both_ways : FnOk P w K mg base CX0 10 a.f_both_ways a.d_both_ways P_both_ways (sp_both_ways K a.c_Web) := ok_both_ways T
  have G_neighbours : FnOk P w K mg base CX0 1 a.f_neighbours a.d_neighbours P_neighbours (sp_neighbours K) := ok_neighbours T
  refine ⟨_, (pss_cons (ps_expr (pe_call (G_check_number) (hr.mono (by omega)) rfl T.m_check_number T.F_check_number.kp T.b_check_number .nil pass0 (pa_cons pe_int (pa_cons (pv 0) pa_nil))))
  (pss_one (ps_ret (pe_call (G_both_ways) (hr.mono (by omega)) rfl T.m_both_ways T.F_both_ways.kp T.b_both_ways .nil pass0 (pa_cons (pv 0) (pa_cons (pe_op op_catLN (pe_call (G_neighbours) (hr.mono (by omega)) rfl T.m_neighbours T.F_neighbours.kp T.b_neighbours .nil pass0 (pa_cons (pv 0) pa_nil)) (pe_lstN (pa_cons (pe_tupN (pa_cons (pe_op op_sub (pv 0) pe_int) (pa_cons pe_int pa_nil))) pa_nil))) pa_nil)))))), ?_⟩
  walk_at "ws"
  refine ⟨3, m, rfl, m1, m7, ?_⟩
  walk_at "ws"
  refine ⟨m, rfl, by omega, m7, fun D xs H1 hD g1 h1 hds => ?_⟩
  walk_at "ws"
  refine ⟨sz (by simp), fun t H2 ht g2 h2 => ?_⟩
  walk_at "ws"
  refine ⟨sz (by simp), fun l H3 hl g3 h3 => ?_⟩
  have lx := DpAll.length hds
  rw [List.length_map, nb_len] at lx
  have g13 := (g2 none).trans (g3 none)
  refine ⟨D, l, xs, _, rfl, rfl, g13.all _ _ h1, h3, by simp; omega, fun p H4 hp g4 h4 => ?_⟩
  walk_at "ws"
  have g14 := g13.trans (g4 none)
  have g04 := g1.trans g14
  have hds4 : DpAll K H4 (xs ++ [V.ref t]) ((ringL m).map dP) := by
    unfold ringL
    rw [List.map_append]
    exact DpAll.app ((dp_n g14).2 _ _ hds) (DpAll.one (dp_ofP (SqT.of (((g3 none).trans (g4 none)).all _ _ h2))))
  refine ⟨m, p, ringL m, rfl, .of h4 hds4, ringL_ok m1, by
    unfold ringL
    rw [List.length_append, nb_len]
    simp
    omega, by omega, m7, fun x ws H5 hx g5 w5 iw mem => ?_⟩
  exact k x ws H5 (back_none g04 hx) (g04.trans g5) w5 iw mem

theorem isweb_len49 {m : Int} {ws : List (Int × Int)} (h : IsWeb m ws) : ws.length ≤ 49 := by
  have hn : (ws.map fun u => (u.1 * 7 + u.2).toNat).Nodup := by
    have : (ws.map fun u => (u.1 * 7 + u.2).toNat).Pairwise (· < ·) := by
      rw [List.pairwise_map]
      refine List.Pairwise.imp_of_mem (fun {u v} hu hv huv => ?_) h.asc
      have h1 := h.mem u hu
      have h2 := h.mem v hv
      have := h.hi
      unfold ltP at huv
      omega
    exact this.imp fun h => Nat.ne_of_lt h
  have := List.Nodup.length_le_of_subset (l₂ := List.range 49) hn fun k hk => by
    obtain ⟨u, hu, rfl⟩ := List.mem_map.mp hk
    have h1 := h.mem u hu
    have := h.hi
    rw [List.mem_range]
    omega
  simpa using this
def sp_with_wire (K : PySem.W.Frag) (C : Addr) : Sp := fun vs H Q _ => ∃ (x q : Addr) (m : Int) (ws : List (Int × Int)) (w0 : Int × Int), vs = [.ref x, .ref q] ∧ WebAt K C H x m ws ∧ IsWeb m ws ∧ Dp K H (.ref q) (dP w0) ∧ okP m w0 ∧ w0 ∉ ws ∧ NewWeb K C H Q m (fun u => u ∈ ws ∨ u = w0)
theorem ok_with_wire (T : Txt K mg a) : FnOk P w K mg base CX0 10 a.f_with_wire a.d_with_wire P_with_wire (sp_with_wire K a.c_Web) := by
  refine T.F_with_wire.ok sc_with_wire (fun vs H Q E h => by obtain ⟨x, q, m, ws, w0, rfl, _⟩ := h; rfl) (fun cdv A outer s H vs Q E hr h => ?_)
  obtain ⟨x, q, m, ws, w0, rfl, hx, hw, hq, ok0, no, k⟩ := h
  have G_is_unlike_pair : FnOk P w K mg base CX0 5 a.f_is_unlike_pair a.d_is_unlike_pair P_is_unlike_pair (sp_is_unlike_pair K) := ok_is_unlike_pair T
  have G_web_of_any_size : FnOk P w K mg base CX0 9 a.f_web_of_any_size a.d_web_of_any_size P_web_of_any_size (sp_web_of_any_size K a.c_Web) := ok_web_of_any_size T
  obtain ⟨dx, wa, hxi, hwa⟩ := id hx
  obtain ⟨q', e, hqs⟩ := dp_dP hq
  cases e
  refine ⟨_, (pss_cons (ps_if (L2.PW.pt (pw_or (pt_not (pt_val (pe_call (G_is_unlike_pair) (hr.mono (by omega)) rfl T.m_is_unlike_pair T.F_is_unlike_pair.kp T.b_is_unlike_pair .nil pass0 (pa_cons (pe_fld (pv 0) rfl) (pa_cons (pv 1) pa_nil))))) (pw_or1 (pt_cmpR (op_inDT (u65 hr)) (pv 1) (pe_fld (pv 0) rfl) (by rfl)))))
    pss_never
    pss_nil)
  (pss_one (ps_ret (pe_call (G_web_of_any_size) (hr.mono (by omega)) rfl T.m_web_of_any_size T.F_web_of_any_size.kp T.b_web_of_any_size .nil pass0 (pa_cons (pe_fld (pv 0) rfl) (pa_cons (pe_op op_catN (pe_fld (pv 0) rfl) (pe_tupN (pa_cons (pv 1) pa_nil))) pa_nil)))))), ?_⟩
  walk_at "ws"
  refine r_fld hxi T.cl_Web T.na_Web_machines (wf_m _ _) ?_
  walk_at "ws"
  refine ⟨m, q, w0.1, w0.2, rfl, hqs, fun H1 g1 => ?_⟩
  rw [ok0.bool]
  walk_at "ws"
  refine r_fld (g1.all _ _ hxi) T.cl_Web T.na_Web_wires (wf_w _ _) ?_
  refine ⟨dP w0, ws.map dP, (dp_n g1).1 _ _ hq, (dp_n g1).1 _ _ hwa, sh_dP w0, sh_dW ws, ?_⟩
  rw [any_dP, decide_eq_false no]
  walk_at "ws"
  refine r_fld (g1.all _ _ hxi) T.cl_Web T.na_Web_machines (wf_m _ _) ?_
  walk_at "ws"
  refine r_fld (g1.all _ _ hxi) T.cl_Web T.na_Web_wires (wf_w _ _) ?_
  walk_at "ws"
  refine ⟨sz (by simp), fun t H2 ht g2 h2 => ?_⟩
  have g02 := g1.trans (g2 none)
  obtain ⟨wa', vs, e, hvs, hds⟩ := dp_tup ((dp_n g02).1 _ _ hwa)
  cases e
  have lv := DpAll.length hds
  rw [List.length_map] at lv
  have l49 := isweb_len49 hw
  refine ⟨wa, t, vs, _, rfl, rfl, hvs, SqT.of h2, by simp; omega, fun p H3 g3 h3 => ?_⟩
  walk_at "ws"
  have g03 := g02.trans (g3 none)
  have hds3 : DpAll K H3 (vs ++ [V.ref q]) ((ws ++ [w0]).map dP) := by
    rw [List.map_append]
    exact DpAll.app ((dp_n (g3 none)).2 _ _ hds) (DpAll.one ((dp_n g03).1 _ _ hq))
  have mok : ∀ u ∈ ws ++ [w0], okP m u := fun u hu => by
    rcases List.mem_append.mp hu with hu | hu
    · exact hw.mem u hu
    · have e : u = w0 := by simpa using hu
      rw [e]; exact ok0
  refine ⟨m, p, _, ws ++ [w0], rfl, .inr h3, hds3, by simp; omega, fun u hu => (mok u hu).in64 hw.hi, fun y ws' H4 hy g4 w4 asc mem => ?_⟩
  refine k y ws' H4 (back_none g03 hy) (g03.trans g4) w4 (isweb_of hw.lo hw.hi asc (fun u h => (mem u).mp h) mok) fun u => by rw [mem]; simp

def sp_all_but (K : PySem.W.Frag) : Sp := fun vs H Q _ => ∃ (q wa : Addr) (ws : List (Int × Int)) (w0 : Int × Int), vs = [.ref q, .ref wa] ∧ Dp K H (.ref q) (dP w0) ∧ Dp K H (.ref wa) (dW ws) ∧ ws.length ≤ 1000 ∧
  ∀ D xs H', H D = none → G none H H' → H' D = some (.lst xs) → DpAll K H' xs ((ws.filter fun v => !decide (v = w0)).map dP) → Q (.ref D) H'
theorem keep_map (ws : List (Int × Int)) (w0 : Int × Int) : (ws.filterMap fun v => if v = w0 then none else some (dP v)) = (ws.filter fun v => !decide (v = w0)).map dP := by
  induction ws with
  | nil => rfl
  | cons w ws ih =>
    rw [List.filterMap_cons, List.filter_cons]
    by_cases c : w = w0
    · simp only [c, if_true, decide_true, Bool.not_true, Bool.false_eq_true, if_false]
      exact ih
    · simp only [c, if_false, decide_false, Bool.not_false, if_true, List.map_cons]
      rw [ih]
theorem ok_all_but (T : Txt K mg a) : FnOk P w K mg base CX0 1 a.f_all_but a.d_all_but P_all_but (sp_all_but K) := by
  refine T.F_all_but.ok sc_all_but (fun vs H Q E h => by obtain ⟨q, wa, ws, w0, rfl, _⟩ := h; rfl) (fun cdv A outer s H vs Q E hr h => ?_)
  obtain ⟨q, wa, ws, w0, rfl, hq, hwa, l49, k⟩ := h
  refine ⟨_, (pss_one (ps_ret (pe_lc (own := [("kept", 2)]) (g := (gName 2)) rfl sc_all_but.nd (pi_tup (pv 1)) (blkOk_by (N := N_all_but) (sc := defScope s_all_but) (by decide +kernel)) (fun _ _ _ _ _ => (pg_name (i := 2) sc_all_but.nd rfl (by first | exact Or.inl rfl | exact Or.inr rfl))) (fun _ _ _ _ _ => (pts_one (pt_cmpR (k_op_neD K hr.units) (pv 2) (pv 0) (nomark _)))) (fun _ _ _ _ _ => (pv 2))))), ?_⟩
  walk_at "ws"
  obtain ⟨wa', vs, e, hvs, hds⟩ := dp_tup hwa
  cases e
  have lv := DpAll.length hds
  rw [List.length_map] at lv
  refine i_tup hvs ?_
  intro D hD
  refine lc_pure (K := K) (o := none) (walk_tup (xs := vs)) (by omega) hD (fun _ e => nomatch e) (fun i => ws[i]?.bind fun v => if v = w0 then none else some (dP v)) (fun H' g => sqT_t g.tups hvs) ?_ ?_
  · rintro i y _ H2 hi g2 ⟨rfl, hy⟩ Qy Qn ky kn
    obtain ⟨d, hd, hyd⟩ := DpAll.get hds hy
    rw [List.getElem?_map] at hd
    obtain ⟨u, hu, rfl⟩ := Option.map_eq_some_iff.mp hd
    have hyd2 := (dp_n g2).1 _ _ hyd
    have hq2 := (dp_n g2).1 _ _ hq
    walk_at "ws"
    refine ⟨rfl, ?_⟩
    walk_at "ws"
    refine ⟨dP u, dP w0, hyd2, hq2, sh_dP u, sh_dP w0, ?_⟩
    rw [eqv_dP]
    walk_at "ws"
    refine w_ite (fun e => ?_) (fun e => ?_)
    · walk_at "ws"
      have e' : ¬ u = w0 := by simpa using e
      exact ky _ _ _ G.refl hyd2 (nl_dP u) (by rw [hu, Option.bind_some, if_neg e'])
    · have e' : u = w0 := by simpa using e
      exact kn _ G.refl (by rw [hu, Option.bind_some, if_pos e'])
  · intro xs H2 g2 hD2 hds2 _
    rw [lv, filterMap_range_fm, keep_map] at hds2
    walk_at "ws"
    exact k D xs H2 hD g2 hD2 hds2

def sp_without_wire (K : PySem.W.Frag) (C : Addr) : Sp := fun vs H Q _ => ∃ (x q : Addr) (m : Int) (ws : List (Int × Int)) (w0 : Int × Int), vs = [.ref x, .ref q] ∧ WebAt K C H x m ws ∧ IsWeb m ws ∧ Dp K H (.ref q) (dP w0) ∧ okP m w0 ∧ w0 ∈ ws ∧ NewWeb K C H Q m (fun u => u ∈ ws ∧ u ≠ w0)
theorem ok_without_wire (T : Txt K mg a) : FnOk P w K mg base CX0 10 a.f_without_wire a.d_without_wire P_without_wire (sp_without_wire K a.c_Web) := by
  refine T.F_without_wire.ok sc_without_wire (fun vs H Q E h => by obtain ⟨x, q, m, ws, w0, rfl, _⟩ := h; rfl) (fun cdv A outer s H vs Q E hr h => ?_)
  obtain ⟨x, q, m, ws, w0, rfl, hx, hw, hq, ok0, no, k⟩ := h
  have G_is_unlike_pair : FnOk P w K mg base CX0 5 a.f_is_unlike_pair a.d_is_unlike_pair P_is_unlike_pair (sp_is_unlike_pair K) := ok_is_unlike_pair T
  have G_web_of_any_size : FnOk P w K mg base CX0 9 a.f_web_of_any_size a.d_web_of_any_size P_web_of_any_size (sp_web_of_any_size K a.c_Web) := ok_web_of_any_size T
  have G_all_but : FnOk P w K mg base CX0 1 a.f_all_but a.d_all_but P_all_but (sp_all_but K) := ok_all_but T
  obtain ⟨dx, wa, hxi, hwa⟩ := id hx
  obtain ⟨q', e, hqs⟩ := dp_dP hq
  cases e
  refine ⟨_, (pss_cons (ps_if (L2.PW.pt (pw_or (pt_not (pt_val (pe_call (G_is_unlike_pair) (hr.mono (by omega)) rfl T.m_is_unlike_pair T.F_is_unlike_pair.kp T.b_is_unlike_pair .nil pass0 (pa_cons (pe_fld (pv 0) rfl) (pa_cons (pv 1) pa_nil))))) (pw_or1 (pt_cmpR (op_notInDT (u65 hr)) (pv 1) (pe_fld (pv 0) rfl) (by rfl)))))
    pss_never
    pss_nil)
  (pss_one (ps_ret (pe_call (G_web_of_any_size) (hr.mono (by omega)) rfl T.m_web_of_any_size T.F_web_of_any_size.kp T.b_web_of_any_size .nil pass0 (pa_cons (pe_fld (pv 0) rfl) (pa_cons (pe_call (G_all_but) (hr.mono (by omega)) rfl T.m_all_but T.F_all_but.kp T.b_all_but .nil pass0 (pa_cons (pv 1) (pa_cons (pe_fld (pv 0) rfl) pa_nil))) pa_nil)))))), ?_⟩
  walk_at "ws"
  refine r_fld hxi T.cl_Web T.na_Web_machines (wf_m _ _) ?_
  walk_at "ws"
  refine ⟨m, q, w0.1, w0.2, rfl, hqs, fun H1 g1 => ?_⟩
  rw [ok0.bool]
  walk_at "ws"
  refine r_fld (g1.all _ _ hxi) T.cl_Web T.na_Web_wires (wf_w _ _) ?_
  refine ⟨dP w0, ws.map dP, (dp_n g1).1 _ _ hq, (dp_n g1).1 _ _ hwa, sh_dP w0, sh_dW ws, ?_⟩
  rw [any_dP, decide_eq_true no]
  walk_at "ws"
  refine r_fld (g1.all _ _ hxi) T.cl_Web T.na_Web_machines (wf_m _ _) ?_
  walk_at "ws"
  refine r_fld (g1.all _ _ hxi) T.cl_Web T.na_Web_wires (wf_w _ _) ?_
  obtain ⟨wa', vs, e, hvs, hds⟩ := dp_tup ((dp_n g1).1 _ _ hwa)
  cases e
  have l49 := isweb_len49 hw
  refine ⟨q, wa, ws, w0, rfl, (dp_n g1).1 _ _ hq, (dp_n g1).1 _ _ hwa, by omega, fun D xs H2 hD g2 hD2 hds2 => ?_⟩
  walk_at "ws"
  have g02 := g1.trans g2
  have mok : ∀ u ∈ ws.filter fun v => !decide (v = w0), okP m u := fun u hu => hw.mem u ((List.mem_filter.mp hu).1)
  refine ⟨m, D, xs, _, rfl, .inl (SqL.of hD2), hds2, by have := List.length_filter_le (fun v => !decide (v = w0)) ws; omega, fun u hu => (mok u hu).in64 hw.hi, fun y ws' H4 hy g4 w4 asc mem => ?_⟩
  refine k y ws' H4 (back_none g02 hy) (g02.trans g4) w4 (isweb_of hw.lo hw.hi asc (fun u h => (mem u).mp h) mok) fun u => by rw [mem, List.mem_filter]; simp

end
end Mine
/-! ## K13 -/


namespace Mine
section
variable {P : Program} {w : World} {K : PySem.W.Frag} {mg : Str → Option Value} {base : Heap} {a : Ads}

/-! ### the law's own lists of wires -/
theorem Fil.ext {o : Option (Addr × Addr)} {H0 H : Hp} {D : Addr} {us vs : List (Int × Int)} {ys : List V} (f : Fil K o H0 H D us) (h0 : H0 D = none) (hh : ∀ p, o = some p → Hand H0 p.1 p.2) (hy : DpAll K H ys (vs.map dP)) :
    ∃ xs, H D = some (.lst xs) ∧ xs.length = us.length ∧ Fil K o H0 (upd H D (.lst (xs ++ ys))) D (us ++ vs) := by
  obtain ⟨g0, xs, h1, h2⟩ := f
  have t : Ts H (upd H D (.lst (xs ++ ys))) := Ts.updl h1
  refine ⟨xs, h1, by rw [DpAll.length h2, List.length_map], g0.mut h0 hh, _, upd_same, ?_⟩
  rw [List.map_append]
  exact DpAll.app (dpAll_t t _ _ (nls_pairs us) h2) (dpAll_t t _ _ (nls_pairs vs) hy)
def rowW (n y : Nat) : List (Int × Int) := (List.range n).filterMap fun (x : Nat) => if x = y then none else some ((y : Int), (x : Int))
def allW (n i : Nat) : List (Int × Int) := (List.range i).flatMap (rowW n)
theorem rowW_mem (n y : Nat) (u : Int × Int) : u ∈ rowW n y ↔ u.1 = (y : Int) ∧ (0 ≤ u.2 ∧ u.2 < n) ∧ u.1 ≠ u.2 := by
  unfold rowW
  rw [List.mem_filterMap]
  constructor
  · rintro ⟨x, hx, e⟩
    have := List.mem_range.mp hx
    by_cases c : x = y
    · rw [if_pos c] at e; cases e
    · rw [if_neg c] at e
      cases e
      exact ⟨rfl, ⟨Int.natCast_nonneg x, by show (x : Int) < n; omega⟩, by show ¬ (y : Int) = x; omega⟩
  · rintro ⟨h1, ⟨h2, h3⟩, h4⟩
    refine ⟨u.2.toNat, List.mem_range.mpr (by omega), ?_⟩
    rw [if_neg (by omega)]
    exact congrArg some (Prod.ext h1.symm (by show ((u.2.toNat : Nat) : Int) = u.2; omega))
theorem allW_mem (n : Nat) (u : Int × Int) : u ∈ allW n n ↔ okP n u := by
  unfold allW okP
  rw [List.mem_flatMap]
  constructor
  · rintro ⟨y, hy, hu⟩
    have := (rowW_mem n y u).mp hu
    have := List.mem_range.mp hy
    omega
  · intro h
    exact ⟨u.1.toNat, List.mem_range.mpr (by omega), (rowW_mem n _ u).mpr (by omega)⟩
theorem allW_succ (n i : Nat) : allW n (i + 1) = allW n i ++ rowW n i := by
  unfold allW
  rw [List.range_succ, List.flatMap_append]
  simp
theorem rowW_len (n y : Nat) : (rowW n y).length ≤ n := by
  unfold rowW
  refine Nat.le_trans (List.length_filterMap_le _ _) ?_
  rw [List.length_range]; exact Nat.le_refl _
theorem allW_len : ∀ n, n ≤ 7 → ∀ i, i ≤ n → (allW n i).length ≤ 42 := by decide +kernel
theorem rowW_data (n y : Nat) : ((List.range n).filterMap fun (x : Nat) => if x = y then none else some (dP ((y : Int), (x : Int)))) = (rowW n y).map dP := by
  unfold rowW
  rw [List.map_filterMap]
  congr 1
  funext x
  by_cases c : x = y <;> simp [c]
def sp__law_all_wires (K : PySem.W.Frag) : Sp := fun vs H Q _ => ∃ m : Int, vs = [.int m] ∧ 1 ≤ m ∧ m ≤ 7 ∧ ∀ D us H', H D = none → Fil K none H H' D us → (∀ u, u ∈ us ↔ okP m u) → us.length ≤ 42 → Q (.ref D) H'
theorem ok__law_all_wires (T : Txt K mg a) : FnOk P w K mg base CX0 1 a.f__law_all_wires a.d__law_all_wires P__law_all_wires (sp__law_all_wires K) := by
  refine T.F__law_all_wires.ok sc__law_all_wires (fun vs H Q E h => by obtain ⟨m, rfl, _⟩ := h; rfl) (fun cdv A outer s H vs Q E hr h => ?_)
  obtain ⟨m, rfl, m1, m7, k⟩ := h
  obtain ⟨n, rfl⟩ : ∃ n : Nat, m = (n : Int) := ⟨m.toNat, by omega⟩
  refine ⟨_, (pss_cons (ps_set (i := 1) sc__law_all_wires.nd rfl (Or.inl rfl) (pe_lstN pa_nil))
  (pss_cons (ps_for PassesOwn.never rfl (pi_range1 rfl T.n_range (pa_cons (pv 0) pa_nil)) (pg_name (i := 2) sc__law_all_wires.nd rfl (Or.inr rfl))
    (pss_one (ps_expr (pe_bm PySem.F.plainAttrs_list PySem.F.slot_list_extend PySem.F.type_list_extend mt_extend (pv 1) (pa_cons (pe_lc (own := [("_law_x", 3)]) (g := (gName 3)) rfl sc__law_all_wires.nd (pi_range1 rfl T.n_range (pa_cons (pv 0) pa_nil)) (blkOk_by (N := N__law_all_wires) (sc := defScope s__law_all_wires) (by decide +kernel)) (fun _ _ _ _ _ => (pg_name (i := 3) sc__law_all_wires.nd rfl (by first | exact Or.inl rfl | exact Or.inr rfl))) (fun _ _ _ _ _ => (pts_one (pt_cmpR op_ne (pv 3) (pv 2) (nomark _)))) (fun _ _ _ _ _ => (pe_tupN (pa_cons (pv 2) (pa_cons (pv 3) pa_nil))))) pa_nil)))))
  (pss_one (ps_ret (pv 1))))), ?_⟩
  walk_at "ws"
  refine ⟨sz (by simp), fun D H1 hD g1 h1 => ?_⟩
  walk_at "ws"
  refine i_rng1 (by omega) (by omega) ?_
  rw [Int.toNat_natCast]
  refine for_it walk_range (fun i σ H' => Fil K none H H' D (allW n i) ∧ ∃ u v, σ = [some (.int n), some (.ref D), u, v]) ⟨⟨g1 none, [], h1, .nil⟩, _, _, rfl⟩ (fun _ _ _ _ _ => trivial) ?_ ?_
  · rintro y _ σ _ H2 hy ⟨f, u, v, rfl⟩ ⟨rfl, rfl⟩
    have ey : (0 : Int) + (y : Int) = (y : Int) := Int.zero_add _
    walk_at "ws"
    obtain ⟨_, xs0, hx0, _⟩ := id f
    refine i_BM hx0 ?_
    walk_at "ws"
    refine i_rng1 (by omega) (by omega) ?_
    rw [Int.toNat_natCast]
    intro D2 hD2
    refine lc_pure (K := K) (o := none) walk_range (by omega) hD2 (fun _ e => nomatch e) (fun (x : Nat) => if x = y then none else some (dP ((y : Int), (x : Int)))) (fun _ _ => trivial) ?_ ?_
    · rintro x _ _ H3 hx g3 ⟨rfl, rfl⟩ Qy Qn ky kn
      walk_at "ws"
      refine ⟨rfl, ?_⟩
      walk_at "ws"
      refine w_ite (fun e => ?_) (fun e => ?_)
      · have e' : ¬ x = y := by
          have : ¬ ((0 : Int) + (x : Int) = 0 + (y : Int)) := by simpa using e
          omega
        walk_at "ws"
        refine ⟨sz (by simp), fun t H4 ht g4 h4 => ?_⟩
        refine ky _ _ _ (g4 none) (dp_ofP (by
          have z := SqT.of (K := K) h4
          simp only [Int.zero_add] at z
          exact z)) (nl_dP _) (by rw [if_neg e'])
      · have e' : x = y := by
          have : ((0 : Int) + (x : Int) = 0 + (y : Int)) := by simpa using e
          omega
        exact kn _ G.refl (by rw [if_pos e'])
    · intro ys H3 g3 hD3 hds _
      rw [rowW_data] at hds
      walk_at "ws"
      have f3 := f.g g3 off_none
      obtain ⟨xs, z1, z2, z3⟩ := Fil.ext f3 hD (fun _ e => nomatch e) hds
      have ly := DpAll.length hds
      rw [List.length_map] at ly
      have l1 := rowW_len n y
      have l2 := allW_len n (by omega) y (by omega)
      refine ⟨D, D2, xs, ys, rfl, rfl, z1, hD3, sz (by omega), ?_⟩
      walk_at "ws"
      rw [allW_succ]
      exact ⟨z3, _, _, rfl⟩
  · rintro σ H2 ⟨f, u, v, rfl⟩
    walk_at "ws"
    exact k D (allW n n) H2 hD f (allW_mem n) (allW_len n (by omega) n (Nat.le_refl _))

def swp (us : List (Int × Int)) : List (Int × Int) := us.map fun u => (u.2, u.1)
def sp__law_doubled (K : PySem.W.Frag) : Sp := fun vs H Q _ => ∃ (p : Addr) (xs : List V) (us : List (Int × Int)), vs = [.ref p] ∧ H p = some (.lst xs) ∧ DpAll K H xs (us.map dP) ∧ us.length ≤ 1000 ∧ ∀ D ys H', H D = none → G none H H' → H' D = some (.lst ys) → DpAll K H' ys ((us ++ swp us).map dP) → Q (.ref D) H'
theorem ok__law_doubled (T : Txt K mg a) : FnOk P w K mg base CX0 1 a.f__law_doubled a.d__law_doubled P__law_doubled (sp__law_doubled K) := by
  refine T.F__law_doubled.ok sc__law_doubled (fun vs H Q E h => by obtain ⟨p, xs, us, rfl, _⟩ := h; rfl) (fun cdv A outer s H vs Q E hr h => ?_)
  obtain ⟨p, xs, us, rfl, hp, hd, hz, k⟩ := h
  have lx := DpAll.length hd
  rw [List.length_map] at lx
  refine ⟨_, (pss_one (ps_ret (pe_op op_catLN (pe_callTy call_listN (by rfl) T.n_list (by decide +kernel) (pa_cons (pv 0) pa_nil)) (pe_lc (own := [("_law_y", 1), ("_law_x", 2)]) (g := (gTup K 2 (gCons (gName 1) (gCons (gName 2) gNil)))) (tt := tYes) rfl sc__law_doubled.nd (pi_list (pv 0)) (blkOk_by (N := N__law_doubled) (sc := defScope s__law_doubled) (by decide +kernel)) (fun _ _ _ _ _ => (pg_tup rfl (pgs_cons (pg_name (i := 1) sc__law_doubled.nd rfl (by first | exact Or.inl rfl | exact Or.inr rfl)) (pgs_cons (pg_name (i := 2) sc__law_doubled.nd rfl (by first | exact Or.inl rfl | exact Or.inr rfl)) pgs_nil)))) (fun _ _ _ _ _ => pts_nil) (fun _ _ _ _ _ => (pe_tupN (pa_cons (pv 2) (pa_cons (pv 1) pa_nil)))))))), ?_⟩
  walk_at "ws"
  refine ⟨p, xs, rfl, .inl (SqL.of hp), fun l H1 hl g1 h1 => ?_⟩
  have g1 := g1 none
  walk_at "ws"
  refine i_list (SqL.of (g1.all _ _ hp)) ?_
  intro D hD
  refine lc_pure (K := K) (o := none) (walk_list (xs := xs)) (by omega) hD (fun _ e => nomatch e) (fun i => us[i]?.map fun u => dP (u.2, u.1)) (fun H' g => SqL.of (g.all _ _ (g1.all _ _ hp))) ?_ ?_
  · rintro i x _ H2 hi g2 ⟨rfl, hx⟩ Qy Qn ky kn
    obtain ⟨d, hd1, hd2⟩ := DpAll.get hd hx
    rw [List.getElem?_map] at hd1
    obtain ⟨u, hu1, rfl⟩ := Option.map_eq_some_iff.mp hd1
    obtain ⟨q, rfl, hq⟩ := dp_dP hd2
    refine ⟨q, _, rfl, sqT_t (g1.trans g2).tups hq, rfl, ?_⟩
    refine ⟨_, _, rfl, ?_⟩
    walk_at "ws"
    refine ⟨_, _, rfl, ?_⟩
    walk_at "ws"
    refine ⟨rfl, rfl, ?_⟩
    walk_at "ws"
    refine ⟨sz (by simp), fun t H3 ht g3 h3 => ?_⟩
    exact ky _ _ _ (g3 none) (dp_ofP (SqT.of h3)) (nl_dP _) (by rw [hu1]; rfl)
  · intro ys H2 g2 hD2 hds _
    rw [lx, filterMap_range_map] at hds
    have e : (us.map fun u => dP (u.2, u.1)) = (swp us).map dP := by unfold swp; rw [List.map_map]; rfl
    rw [e] at hds
    have ly := DpAll.length hds
    unfold swp at ly
    rw [List.length_map, List.length_map] at ly
    refine ⟨l, D, xs, ys, rfl, rfl, g2.all _ _ h1, hD2, by omega, fun r H3 hr3 g3 h3 => ?_⟩
    have g12 := g1.trans g2
    have g03 := g12.trans (g3 none)
    refine k r _ H3 (back_none g12 hr3) g03 h3 ?_
    rw [List.map_append]
    exact DpAll.app ((dp_n g03).2 _ _ hd) ((dp_n (g3 none)).2 _ _ hds)

end
end Mine
/-! ## K14 -/


namespace Mine
section
variable {P : Program} {w : World} {K : PySem.W.Frag} {mg : Str → Option Value} {base : Heap} {a : Ads}

/-! ### a drawn order -/
section
variable {X : Cx} {T : String} {name : Str} {id : String} {r : V → List V → Hp → VK → Prop} {o e : Expr} {es : List Expr} {apos cpos : Pos} {to : TE} {t : TA}
theorem k_bm (K : PySem.W.Frag) (pa : PlainAttrs T) (slot : Slot T name id) (hty : typeOf (.builtin id) = pure (.type "method_descriptor")) (hm : MtR X id r) (ho : PE X o to) (ha : PA X (e :: es) t) (hK : X.K = K := by rfl)
    (h1 : attributeBase o name X.env (eval o X.env) = eval o X.env := by rfl)
    (h2 : ((backTo cpos (starEach (e :: es) X.env)).all (fun x => !x.1) && (backToKw cpos (keywordEach [] X.env)).all (fun x => x.1.isSome) && decide ((e :: es).length + ([] : List Keyword).length + (if ([] : List Keyword).isEmpty then 0 else 1) < 30)) = true := by rfl)
    (h3 : (apos.endLine == cpos.line) = true := by rfl) (h4 : starEach (e :: es) X.env = (false, eval e X.env) :: starEach es X.env := by rfl) (h5 : (backTo cpos (starEach es X.env)).any (·.1) = false := by rfl) :
    PE X (.Call (.Attribute o name apos) (e :: es) [] cpos) (tBM K T r to t) := by
  subst hK
  exact pe_bm pa slot hty hm ho ha h1 h2 h3 h4 h5
/-- a tuple whose object is known: it has no names of its own -/
def FrzT (H : Hp) (p : Addr) (xs : List V) : Prop := ∃ ob : Obj, H p = some (.frz ob (.tup xs)) ∧ ob.dict = none
theorem FrzT.sq {K : PySem.W.Frag} {H : Hp} {p : Addr} {xs : List V} (h : FrzT H p xs) : SqT K H p xs := by
  obtain ⟨ob, h, _⟩ := h
  exact .inl (.inr ⟨ob, h⟩)
theorem FrzT.n {H H' : Hp} {p : Addr} {xs : List V} (h : FrzT H p xs) (g : G none H H') : FrzT H' p xs := by
  obtain ⟨ob, h, d⟩ := h
  exact ⟨ob, g.all _ _ h, d⟩
def tBMT (r : V → List V → Hp → VK → Prop) (to : TE) (t : TA) : TE := fun σ H Q => to σ H fun x H1 => (∃ p xs, x = .ref p ∧ FrzT H1 p xs) ∧ t σ H1 fun vs H2 => r x vs H2 Q
theorem w_bmt {r : V → List V → Hp → VK → Prop} {σ : L2.St} {H : Hp} {Q : VK} (q : to σ H fun x H1 => (∃ p xs, x = .ref p ∧ FrzT H1 p xs) ∧ t σ H1 fun vs H2 => r x vs H2 Q) : tBMT r to t σ H Q := q
theorem pe_bmT (pa : PlainAttrs "tuple") (slot : Slot "tuple" name id) (hty : typeOf (.builtin id) = pure (.type "method_descriptor")) (hm : MtR X id r) (ho : PE X o to) (ha : PA X (e :: es) t)
    (h1 : attributeBase o name X.env (eval o X.env) = eval o X.env := by rfl)
    (h2 : ((backTo cpos (starEach (e :: es) X.env)).all (fun x => !x.1) && (backToKw cpos (keywordEach [] X.env)).all (fun x => x.1.isSome) && decide ((e :: es).length + ([] : List Keyword).length + (if ([] : List Keyword).isEmpty then 0 else 1) < 30)) = true := by rfl)
    (h3 : (apos.endLine == cpos.line) = true := by rfl) (h4 : starEach (e :: es) X.env = (false, eval e X.env) :: starEach es X.env := by rfl) (h5 : (backTo cpos (starEach es X.env)).any (·.1) = false := by rfl) :
    PE X (.Call (.Attribute o name apos) (e :: es) [] cpos) (tBMT r to t) := by
  refine ⟨fun pins s σ H Q I h => ?_⟩
  refine wpAny_Call_method_late h1 h2 h3 rfl (thn (ho.run pins s σ H _ I h) fun v s1 ⟨x, H1, I1, r1, ⟨p, xs, ex, ob, hp, dn⟩, q1⟩ => ?_)
  subst ex
  cases r1
  obtain ⟨a1, _, its, _, o', a2, a3, _⟩ := I1.hok p _ hp
  obtain rfl : o' = ob := by
    rw [a1] at a2
    exact (Option.some.inj a2).symm
  refine ⟨"tuple", id, pa, slot, hty, ⟨o', a1, a3⟩, fun a e => by cases e; exact ⟨o', a1, dn⟩, ?_⟩
  have hA := ha.run cpos pins s1 σ H1 _ I1 q1
  rw [h4] at hA ⊢
  refine Calls.callWith_builtin (by show (false || (backTo cpos (starEach es X.env)).any (·.1)) = false; rw [h5] <;> rfl) (Calls.evalArgs_plain ?_)
  exact thn hA fun us s2 ⟨vs, H2, I2, r2, q2⟩ => hm pins s2 σ H2 (.ref p) vs (.ref p) us Q I2 rfl r2 q2
/-- tuple(a list): the new tuple's object is told -/
def rTupleF (K : PySem.W.Frag) : List V → Hp → VK → Prop := fun xs H Q => ∃ p ys, xs = [.ref p] ∧ SqL K H p ys ∧ ∀ l H2, H l = none → (∀ o, G o H H2) → FrzT H2 l ys → Q (.ref l) H2
theorem call_tupleF : CallR X (.type "tuple") (rTupleF X.K) := by
  intro pins s σ H xs us Q I r h
  obtain ⟨p, ys, rfl, hq, q⟩ := h
  obtain ⟨u, rfl, rx⟩ := vals1 r
  cases rx
  obtain ⟨its, r', pl, hz⟩ := I.list hq
  have hlen := r'.length
  refine call_tuple_list pl.isList (fun h' kp => ?_) (by simp only [List.size_toArray] <;> omega)
  have I1 : Inv X pins σ H { s with heap := h' } := I.kept (t' := s.toks) kp
  have new : H h'.objs.size = none := I1.hok.fresh (Nat.le_refl _)
  refine ⟨.ref h'.objs.size, _, I1.laid (o := .frz { cls := .type "tuple", data := .seq its.toArray } (.tup ys)) (t' := s.toks) (fun b o e => Heap.get?_push_of_some _ e) (Nat.le_refl _) ⟨Heap.get?_push_size _ rfl, hz, its, r', PyProof.Rows.IsTup.new _ _⟩, rfl, q _ _ new (fun _ => G.alloc new) ⟨_, upd_same, rfl⟩⟩
end
def upto (n : Nat) : List Int := (List.range n).map fun (i : Nat) => (i : Int)
def sp__law_order (K : PySem.W.Frag) : Sp := fun vs H Q _ => ∃ (hd c : Addr) (m : Int), vs = [.ref hd, .int m] ∧ Hand H hd c ∧ 1 ≤ m ∧ m ≤ 7 ∧ ∀ p os H', G (some (hd, c)) H H' → Hand H' hd c → FrzT H' p (os.map V.int) → IsOrd m os → os.length = m.toNat → Q (.ref p) H'
theorem perm_pop {os ls : List Int} {r : Nat} (h : r < ls.length) {l : List Int} (p : (os ++ ls).Perm l) : ((os ++ [ls[r]]) ++ ls.eraseIdx r).Perm l := by
  refine List.Perm.trans ?_ p
  rw [List.append_assoc]
  refine List.Perm.append_left os ?_
  have e := List.take_append_drop r ls
  have e2 : ls.drop r = ls[r] :: ls.drop (r + 1) := List.drop_eq_getElem_cons h
  rw [List.eraseIdx_eq_take_drop_succ]
  have : ls = ls.take r ++ ls[r] :: ls.drop (r + 1) := by rw [← e2, e]
  conv => rhs; rw [this]
  show (ls[r] :: (ls.take r ++ ls.drop (r + 1))).Perm _
  exact List.perm_middle.symm
theorem erase_ints (ls : List Int) (r : Nat) : (ls.map V.int).eraseIdx r = (ls.eraseIdx r).map V.int := erase_mapI ls r
theorem ok__law_order (T : Txt K mg a) : FnOk P w K mg base CX0 2 a.f__law_order a.d__law_order P__law_order (sp__law_order K) := by
  refine T.F__law_order.ok sc__law_order (fun vs H Q E h => by obtain ⟨hd, c, m, rfl, _⟩ := h; rfl) (fun cdv A outer s H vs Q E hr h => ?_)
  obtain ⟨hd, c, m, rfl, hh, m1, m7, k⟩ := h
  obtain ⟨n, rfl⟩ : ∃ n : Nat, m = (n : Int) := ⟨m.toNat, by omega⟩
  rw [Int.toNat_natCast] at k
  have G__law_draw : FnOk P w K mg base CX0 1 a.f__law_draw a.d__law_draw P__law_draw sp__law_draw := ok__law_draw T
  refine ⟨_, (pss_cons (ps_set (i := 2) sc__law_order.nd rfl (Or.inr rfl) (pe_listRgN rfl (by rfl) T.n_list (prg_1 (by rfl) T.n_range (pv 1)) (mo_rg1 mo_var)))
  (pss_one (ps_ret (pe_callTy call_tupleF (by rfl) T.n_tuple (by decide +kernel) (pa_cons (pe_lc (own := [("_law_turn", 3)]) (g := (gName 3)) (tt := tYes) rfl sc__law_order.nd (pi_range1 rfl T.n_range (pa_cons (pv 1) pa_nil)) (blkOk_by (N := N__law_order) (sc := defScope s__law_order) (by decide +kernel)) (fun _ _ _ _ _ => (pg_name (i := 3) sc__law_order.nd rfl (by first | exact Or.inl rfl | exact Or.inr rfl))) (fun _ _ _ _ _ => pts_nil) (fun _ _ _ _ _ => (k_bm K PySem.F.plainAttrs_list PySem.F.slot_list_pop PySem.F.type_list_pop mt_popAt (pv 2) (pa_cons (pe_call (G__law_draw) (hr.mono (by omega)) rfl T.m__law_draw T.F__law_draw.kp T.b__law_draw .nil pass0 (pa_cons (pv 0) (pa_cons (pe_callB (k_call_len_seq K) (by rfl) T.n_len (by decide +kernel) (pa_cons (pv 2) pa_nil)) pa_nil))) pa_nil)))) pa_nil))))), ?_⟩
  walk_at "ws"
  refine w_lstRg (w_rg1 ?_)
  walk_at "ws"
  refine ⟨RgOk.of_le (by decide) (by omega) (by decide) (by omega), fun L H1 hL g1 h1 => ?_⟩
  have e1 : rgV 0 (n : Int) = (upto n).map V.int := by
    unfold rgV upto
    rw [List.map_map, Int.sub_zero, Int.toNat_natCast]
    refine List.map_congr_left fun i _ => ?_
    show V.int (0 + ((i : Nat) : Int)) = V.int ((i : Nat) : Int)
    rw [Int.zero_add]
  rw [e1] at h1
  walk_at "ws"
  refine i_rng1 (by omega) (by omega) ?_
  rw [Int.toNat_natCast]
  intro D hD
  have hD0 : H D = none := back_none (g1 none) hD
  have nLD : L ≠ D := ne_of_none h1 hD
  have offL : ∀ p, some (hd, c) = some p → L ≠ p.1 := fun p e => by cases e; exact hh.ne hL
  have offD : ∀ p, some (hd, c) = some p → D ≠ p.1 := fun p e => by cases e; exact hh.ne hD0
  refine lc_it walk_range (fun i H' => ∃ os ls : List Int, G (some (hd, c)) H H' ∧ H' L = some (.lst (ls.map V.int)) ∧ H' D = some (.lst (os.map V.int)) ∧ (os ++ ls).Perm (upto n) ∧ os.length = i) ⟨[], upto n, (g1 _).mut hD0 (fun p e => by cases e; exact hh), by rw [upd_ne nLD]; exact h1, upd_same, List.Perm.refl _, rfl⟩ (fun _ _ _ _ => trivial) ?_ ?_
  · rintro i _ _ H2 hi ⟨os, ls, g2, h2L, h2D, pm, ho⟩ ⟨rfl, rfl⟩
    have hll : os.length + ls.length = n := by
      have := pm.length_eq
      unfold upto at this
      simpa using this
    walk_at "ws"
    refine ⟨rfl, ?_⟩
    walk_at "ws"
    refine i_BM h2L ?_
    walk_at "ws"
    refine ⟨L, _, rfl, .inl (SqL.of h2L), ?_⟩
    walk_at "ws"
    rw [List.length_map]
    refine ⟨hd, c, (ls.length : Int), rfl, g2.hand _ rfl hh, by omega, by omega, fun r H3 r0 r1 g3 hh3 => ?_⟩
    walk_at "ws"
    have h3L := g3.keep L _ offL h2L
    have h3D := g3.keep D _ offD h2D
    have rl : r.toNat < ls.length := by omega
    refine ⟨L, ls.map V.int, r, r.toNat, .int ls[r.toNat], rfl, rfl, h3L, by omega, by omega, ?_, by rw [List.getElem?_map, List.getElem?_eq_getElem rl]; rfl, ?_⟩
    · unfold PySem.seqIndex?
      rw [List.length_map]
      have n0 : ¬ r < 0 := by omega
      simp [n0]
      omega
    · refine ⟨os.map V.int, by rw [upd_ne nLD.symm]; exact h3D, Nat.lt_of_le_of_lt (by rw [List.length_map]; omega : (os.map V.int).length ≤ 100000) (by decide), os ++ [ls[r.toNat]], ls.eraseIdx r.toNat, ?_, ?_, ?_, perm_pop rl pm, by rw [List.length_append, ho]; rfl⟩
      · exact ((g2.trans g3).mut hL (fun p e => by cases e; exact hh)).mut hD0 (fun p e => by cases e; exact hh)
      · rw [upd_ne nLD, upd_same, erase_ints]
      · rw [upd_same, List.map_append]; rfl
  · rintro H2 ⟨os, ls, g2, h2L, h2D, pm, ho⟩
    have hll : os.length + ls.length = n := by
      have := pm.length_eq
      unfold upto at this
      simpa using this
    have l0 : ls = [] := List.eq_nil_of_length_eq_zero (by omega)
    subst l0
    rw [List.append_nil] at pm
    walk_at "ws"
    refine ⟨D, os.map V.int, rfl, SqL.of h2D, fun p H3 hp g3 h3 => ?_⟩
    refine k p os H3 (g2.trans (g3 _)) ((g2.trans (g3 _)).hand _ rfl hh) h3 ⟨by omega, by omega, pm.nodup_iff.mpr ?_, fun x => ?_⟩ ho
    · unfold upto
      exact List.pairwise_map.mpr ((List.pairwise_lt_range (n := n)).imp fun h e => by omega)
    · rw [pm.mem_iff]
      unfold upto
      rw [List.mem_map]
      constructor
      · rintro ⟨j, hj, rfl⟩
        have := List.mem_range.mp hj
        omega
      · intro h
        exact ⟨x.toNat, List.mem_range.mpr (by omega), by omega⟩

end
end Mine
/-! ## K15 -/


namespace Mine
section
variable {P : Program} {w : World} {K : PySem.W.Frag} {mg : Str → Option Value} {base : Heap} {a : Ads}

/-! ### is it the web of these wires -/
theorem web_new {C : Addr} {H1 : Hp} {m : Int} {p : Addr} {ws : List (Int × Int)} {F : Addr → Hp → Prop} {E : XK} (hd : Dp K H1 (.ref p) (dW ws)) (hw : IsWeb m ws) (q : ∀ x H2, H1 x = none → (∀ o, G o H1 H2) → WebAt K C H2 x m ws → F x H2) :
    ∀ x dx, H1 x = none → H1 dx = none → dx ≠ x → sp_Web_init K C (.ref x :: ([.int m, .ref p] ++ [])) (upd (upd H1 dx (.own x)) x (.ins C dx [])) (fun v H2 => v = .non ∧ F x H2) E := by
  intro x dx hx hdx nex
  have hxi : (upd (upd H1 dx (.own x)) x (.ins C dx [])) x = some (.ins C dx []) := upd_same
  have k12 : ∀ a u, H1 a = some u → (upd (upd H1 dx (.own x)) x (.ins C dx [])) a = some u := fun a u e => by
    rw [upd_ne (ne_of_none e hx), upd_ne (ne_of_none e hdx)]; exact e
  have t12 : Ts H1 (upd (upd H1 dx (.own x)) x (.ins C dx [])) := (G.of_all (o := none) k12).tups
  refine ⟨x, dx, m, p, ws, rfl, hxi, dp_t t12 _ _ (nl_dW ws) hd, hw, fun H2 k2 t2 h2 => ⟨rfl, ?_⟩⟩
  exact q x H2 hx (fun _ => G.of_all fun a u e => k2 a u (ne_of_none e hx) (k12 a u e)) ⟨dx, p, h2, dp_t (t12.trans t2) _ _ (nl_dW ws) hd⟩

theorem ltP_eq {l l' : List (Int × Int)} (h : l.Pairwise ltP) (h' : l'.Pairwise ltP) (m : ∀ z, z ∈ l ↔ z ∈ l') : l = l' := by
  have nn : ∀ {l : List (Int × Int)}, l.Pairwise ltP → l.Nodup := fun h => h.imp fun {u v} h e => by
    subst e
    unfold ltP at h
    omega
  have pm := (List.perm_ext_iff_of_nodup (nn h) (nn h')).mpr m
  exact pm.eq_of_pairwise (fun a b _ _ h1 h2 => by unfold ltP at h1 h2; omega) h h'
def sp__law_is_web (K : PySem.W.Frag) (C : Addr) : Sp := fun vs H Q _ => ∃ (x : Addr) (m : Int) (p : Addr) (us ws : List (Int × Int)), vs = [.ref x, .int m, .ref p] ∧ WebAt K C H x m ws ∧ IsWeb m ws ∧ PL K H p us ∧ (∀ u, u ∈ ws ↔ u ∈ us) ∧ us.length < 64 ∧ ∀ H', G none H H' → Q (.bl true) H'
theorem okd_web (m : Int) (ws : List (Int × Int)) (hz : ws.length ≤ 1000) : okd 3 (.list [.int m, dW ws]) := by
  refine .inr ⟨_, .inr rfl, (by simp), fun e he => ?_⟩
  rcases List.mem_cons.mp he with e1 | he
  · subst e1; exact .inl trivial
  · have e1 : e = dW ws := by simpa using he
    subst e1
    refine .inr ⟨_, .inl rfl, by rw [List.length_map]; omega, fun d hd => ?_⟩
    obtain ⟨w, _, rfl⟩ := List.mem_map.mp hd
    refine .inr ⟨_, .inl rfl, (by simp), fun z hz => ?_⟩
    rcases List.mem_cons.mp hz with e1 | hz
    · subst e1; exact trivial
    · have e1 : z = .int w.2 := by simpa using hz
      subst e1; exact trivial
theorem ok__law_is_web (T : Txt K mg a) : FnOk P w K mg base CX0 9 a.f__law_is_web a.d__law_is_web P__law_is_web (sp__law_is_web K a.c_Web) := by
  refine T.F__law_is_web.ok sc__law_is_web (fun vs H Q E h => by obtain ⟨x, m, p, us, ws, rfl, _⟩ := h; rfl) (fun cdv A outer s H vs Q E hr h => ?_)
  obtain ⟨x, m, p, us, ws, rfl, hx, hw, hp, mem, hz, k⟩ := h
  have G__law_is : FnOk P w K mg base CX0 4 a.f__law_is a.d__law_is P__law_is (sp__law_is K 3) := ok__law_is T 3
  have G_Web_init : FnOk P w K mg base CX0 7 a.f_Web_init a.d_Web_init P_Web_init (sp_Web_init K a.c_Web) := ok_Web_init T
  refine ⟨_, (pss_cons (ps_set (i := 3) sc__law_is_web.nd rfl (Or.inl rfl) (pe_callTy call_tupleN (by rfl) T.n_tuple (by decide +kernel) (pa_cons (pe_callB (cr_sortSN rfl) (by rfl) T.n_sorted (by decide +kernel) (pa_cons (pe_callTy (cr_setPA rfl hr.units) (by rfl) T.n_set (by decide +kernel) (pa_cons (pe_callTy call_listN (by rfl) T.n_list (by decide +kernel) (pa_cons (pv 2) pa_nil)) pa_nil)) pa_nil)) pa_nil)))
  (pss_one (ps_ret (pe_and (pe_callB (C8.call_isC T.ic_Web) (by rfl) T.n_isinstance (by decide +kernel) (pa_cons (pv 0) (pa_cons (pe_glob (v := .ref a.c_Web) rfl T.m_Web rfl) pa_nil))) (pe_and (pe_call (G__law_is) (hr.mono (by omega)) rfl T.m__law_is T.F__law_is.kp T.b__law_is .nil pass0 (pa_cons (pe_lstN (pa_cons (pe_fld (pv 0) rfl) (pa_cons (pe_fld (pv 0) rfl) pa_nil))) (pa_cons (pe_lstN (pa_cons (pv 1) (pa_cons (pv 3) pa_nil))) pa_nil))) (pe_one (pe_cmpR (op_eqG (rcG_ins (ok_Web_eq T) T.eqf_Web T.eqi_Web T.b_Web_eq pass0) (hr.mono (by omega))) (pv 0) (pe_make T.K_Web (G_Web_init) (hr.mono (by omega)) rfl T.m_Web T.b_Web_init .nil pass0 (pa_cons (pv 1) (pa_cons (pv 3) pa_nil))) (nomark _)))))))), ?_⟩
  obtain ⟨xs, hxs, hd⟩ := id hp
  walk_at "ws"
  refine ⟨p, xs, rfl, hxs, fun l H1 hl g1 h1 => ?_⟩
  have g1 := g1 none
  walk_at "ws"
  refine ⟨l, xs, us, rfl, .inl (SqL.of h1), (dp_n g1).2 _ _ hd, hz, fun s1 L H2 hs1 g2 h2 hL hm => ?_⟩
  walk_at "ws"
  have ok : ∀ u ∈ us, okP m u := fun u hu => hw.mem u ((mem u).mpr hu)
  refine ⟨s1, L, us, rfl, h2, hL, hm, fun u hu => (ok u hu).in64 hw.hi, fun ws' asc mem' few q H3 ys hq g3 h3 hys => ?_⟩
  obtain rfl : ws' = ws := ltP_eq (ltW_ltP asc) hw.asc fun z => by rw [mem', mem]
  walk_at "ws"
  refine ⟨q, ys, rfl, .inl ⟨SqL.of h3, fun t H4 ht g4 h4 => ?_⟩⟩
  have hdue : Dp K H4 (.ref t) (dW ws') := .tup (SqT.of h4) ((dp_n (g4 none)).2 _ _ hys)
  have g04 := ((g1.trans (g2 none)).trans (g3 none)).trans (g4 none)
  have hx4 := hx.n g04
  clear g1 g2 g3 g4 h1 h2 h3 h4 hys hL hm
  obtain ⟨dx, wa, hxi, hwa⟩ := id hx4
  walk_at "ws"
  refine ⟨x, dx, _, rfl, hxi, ?_⟩
  walk_at "ws"
  refine r_fld hxi T.cl_Web T.na_Web_machines (wf_m _ _) ?_
  walk_at "ws"
  refine r_fld hxi T.cl_Web T.na_Web_wires (wf_w _ _) ?_
  walk_at "ws"
  refine ⟨sz (by simp), fun l1 H5 hl1 g5 h5 => ?_⟩
  walk_at "ws"
  refine ⟨sz (by simp), fun l2 H6 hl2 g6 h6 => ?_⟩
  walk_at "ws"
  have g46 := (g5 none).trans (g6 none)
  have h5' := (g6 none).all _ _ h5
  refine ⟨.ref l1, .ref l2, .list [.int m, dW ws'], rfl, okd_web m ws' (by have := isweb_len49 hw; omega), .lst (SqL.of h5') (.cons (.int m) (.cons ((dp_n g46).1 _ _ hwa) .nil)), .lst (SqL.of h6) (.cons (.int m) (.cons ((dp_n g46).1 _ _ hdue) .nil)), fun H7 g7 => ?_⟩
  walk_at "ws"
  have g47 := g46.trans g7
  refine web_new (ws := ws') ((dp_n g47).1 _ _ hdue) hw fun x2 H8 hx2 g8 hx2w => ?_
  have g48 := g47.trans (g8 none)
  have hx8 := hx4.n g48
  obtain ⟨dy, wb, hyi, _⟩ := id hx2w
  refine ⟨⟨x, x2, dx, dy, _, _, rfl, rfl, g48.all _ _ hxi, hyi, m, ws', hx8, hx2w⟩, fun H9 e9 => ?_⟩
  exact k _ ((g04.trans g48).trans (ext_of e9))

end
end Mine
/-! ## K16 -/


namespace Mine
section
variable {P : Program} {w : World} {K : PySem.W.Frag} {mg : Str → Option Value} {base : Heap} {a : Ads}

/-! ### an order turned about -/
def bk (os : List Int) (n : Nat) : List Int := (List.range n).map fun (i : Nat) => ((os.idxOf (i : Int) : Nat) : Int)
theorem idx_lt {os : List Int} {z : Int} (h : z ∈ os) : os.idxOf z < os.length := List.idxOf_lt_length_iff.mpr h
theorem idx_at {os : List Int} {z : Int} (h : z ∈ os) : os[os.idxOf z]? = some z := by
  rw [List.getElem?_eq_getElem (idx_lt h)]
  exact congrArg some (List.getElem_idxOf (idx_lt h))
theorem idx_of {os : List Int} (nd : os.Nodup) {j : Nat} {z : Int} (h : os[j]? = some z) : os.idxOf z = j := nd_ix nd (idx_at (List.mem_of_getElem? h)) h
theorem ord_len {n : Nat} {os : List Int} (h : IsOrd n os) : os.length = n := by
  have h1 : os.Perm ((List.range n).map fun (i : Nat) => (i : Int)) := by
    refine (List.perm_ext_iff_of_nodup h.nd (List.pairwise_map.mpr ((List.pairwise_lt_range (n := n)).imp fun h e => by omega))).mpr fun x => ?_
    rw [h.mem, List.mem_map]
    constructor
    · intro h
      exact ⟨x.toNat, List.mem_range.mpr (by omega), by omega⟩
    · rintro ⟨i, hi, rfl⟩
      have := List.mem_range.mp hi
      omega
  have := h1.length_eq
  simpa using this
theorem bk_ord {n : Nat} {os : List Int} (h : IsOrd n os) : IsOrd n (bk os n) := by
  have hl := ord_len h
  have mem : ∀ {i : Nat}, i < n → (i : Int) ∈ os := fun {i} hi => (h.mem _).mpr (by omega)
  refine ⟨h.pos, h.small, ?_, fun x => ?_⟩
  · unfold bk
    rw [List.Nodup, List.pairwise_map]
    refine List.Pairwise.imp_of_mem (fun {i j} hi hj hij => ?_) (List.pairwise_lt_range (n := n))
    intro e
    have e : os.idxOf (i : Int) = os.idxOf (j : Int) := Int.ofNat.inj e
    have e1 := idx_at (mem (List.mem_range.mp hi))
    rw [e, idx_at (mem (List.mem_range.mp hj))] at e1
    have := Option.some.inj e1
    omega
  · unfold bk
    rw [List.mem_map]
    constructor
    · rintro ⟨i, hi, rfl⟩
      have := idx_lt (mem (List.mem_range.mp hi))
      omega
    · rintro ⟨x0, x1⟩
      have hx : x.toNat < os.length := by omega
      have e : os[x.toNat]? = some os[x.toNat] := List.getElem?_eq_getElem hx
      have b := (h.mem _).mp (List.mem_of_getElem? e)
      refine ⟨(os[x.toNat]).toNat, List.mem_range.mpr (by omega), ?_⟩
      have e2 : (((os[x.toNat]).toNat : Nat) : Int) = os[x.toNat] := by omega
      rw [e2, idx_of h.nd e]
      omega
theorem bk_back {n : Nat} {os : List Int} (h : IsOrd n os) {i : Int} (h0 : 0 ≤ i) (h1 : i < n) : (bk os n).getD (os.getD i.toNat 0).toNat 0 = i := by
  obtain ⟨_, b, hi⟩ := ord_at h h0 h1
  have e : os[i.toNat]? = some (os.getD i.toNat 0) := by rw [List.getD_eq_getElem?_getD, List.getElem?_eq_getElem hi]; rfl
  generalize os.getD i.toNat 0 = v at b e ⊢
  have ev : (bk os n)[v.toNat]? = some ((os.idxOf v : Nat) : Int) := by
    unfold bk
    rw [List.getElem?_map, List.getElem?_range (by omega)]
    have e2 : ((v.toNat : Nat) : Int) = v := by omega
    show some ((os.idxOf ((v.toNat : Nat) : Int) : Nat) : Int) = _
    rw [e2]
  rw [List.getD_eq_getElem?_getD, ev, idx_of h.nd e]
  show ((i.toNat : Nat) : Int) = i
  omega
def sp__law_turned_right (K : PySem.W.Frag) : Sp := fun vs H Q _ => ∃ (hd c : Addr) (m : Int) (wa : Addr) (ws : List (Int × Int)), vs = [.ref hd, .int m, .ref wa] ∧ Hand H hd c ∧ IsWeb m ws ∧ Dp K H (.ref wa) (dW ws) ∧ ∀ H', G (some (hd, c)) H H' → Q (.bl true) H'
theorem ok__law_turned_right (T : Txt K mg a) : FnOk P w K mg base CX0 11 a.f__law_turned_right a.d__law_turned_right P__law_turned_right (sp__law_turned_right K) := by
  refine T.F__law_turned_right.ok sc__law_turned_right (fun vs H Q E h => by obtain ⟨hd, c, m, wa, ws, rfl, _⟩ := h; rfl) (fun cdv A outer s H vs Q E hr h => ?_)
  obtain ⟨hd, c, m, wa, ws, rfl, hh, hw, hwa, k⟩ := h
  have G__law_order : FnOk P w K mg base CX0 2 a.f__law_order a.d__law_order P__law_order (sp__law_order K) := ok__law_order T
  have G_renamed : FnOk P w K mg base CX0 10 a.f_renamed a.d_renamed P_renamed (sp_renamed K a.c_Web) := ok_renamed T
  have G__law_is_web : FnOk P w K mg base CX0 9 a.f__law_is_web a.d__law_is_web P__law_is_web (sp__law_is_web K a.c_Web) := ok__law_is_web T
  have G_with_wire : FnOk P w K mg base CX0 10 a.f_with_wire a.d_with_wire P_with_wire (sp_with_wire K a.c_Web) := ok_with_wire T
  have G_without_wire : FnOk P w K mg base CX0 10 a.f_without_wire a.d_without_wire P_without_wire (sp_without_wire K a.c_Web) := ok_without_wire T
  have G__law_all_wires : FnOk P w K mg base CX0 1 a.f__law_all_wires a.d__law_all_wires P__law_all_wires (sp__law_all_wires K) := ok__law_all_wires T
  have G_Web_init : FnOk P w K mg base CX0 7 a.f_Web_init a.d_Web_init P_Web_init (sp_Web_init K a.c_Web) := ok_Web_init T
  have m1 := hw.lo
  have m7 := hw.hi
  have l49 := isweb_len49 hw
  obtain ⟨n, rfl⟩ : ∃ n : Nat, m = (n : Int) := ⟨m.toNat, by omega⟩
  refine ⟨_, (pss_cons (ps_set (i := 3) sc__law_turned_right.nd rfl (Or.inl rfl) (pe_make T.K_Web (G_Web_init) (hr.mono (by omega)) rfl T.m_Web T.b_Web_init .nil pass0 (pa_cons (pv 1) (pa_cons (pv 2) pa_nil))))
  (pss_cons (ps_set (i := 4) sc__law_turned_right.nd rfl (Or.inr rfl) (pe_call (G__law_order) (hr.mono (by omega)) rfl T.m__law_order T.F__law_order.kp T.b__law_order .nil pass0 (pa_cons (pv 0) (pa_cons (pv 1) pa_nil))))
  (pss_cons (ps_set (i := 5) sc__law_turned_right.nd rfl (Or.inl rfl) (pe_callTy call_tupleN (by rfl) T.n_tuple (by decide +kernel) (pa_cons (pe_lc (own := [("_law_x", 10)]) (g := (gName 10)) (tt := tYes) rfl sc__law_turned_right.nd (pi_range1 rfl T.n_range (pa_cons (pv 1) pa_nil)) (blkOk_by (N := N__law_turned_right) (sc := defScope s__law_turned_right) (by decide +kernel)) (fun _ _ _ _ _ => (pg_name (i := 10) sc__law_turned_right.nd rfl (by first | exact Or.inl rfl | exact Or.inr rfl))) (fun _ _ _ _ _ => pts_nil) (fun _ _ _ _ _ => (pe_bmT PySem.F.plainAttrs_tuple PySem.F.slot_tuple_index PySem.F.type_tuple_index (k_mt_indexTI K) (pv 4) (pa_cons (pv 10) pa_nil)))) pa_nil)))
  (pss_cons (ps_set (i := 6) sc__law_turned_right.nd rfl (Or.inl rfl) (pe_call (G_renamed) (hr.mono (by omega)) rfl T.m_renamed T.F_renamed.kp T.b_renamed .nil pass0 (pa_cons (pv 3) (pa_cons (pv 4) pa_nil))))
  (pss_cons (ps_if (L2.PW.pt (pw_or (pt_not (pt_val (pe_call (G__law_is_web) (hr.mono (by omega)) rfl T.m__law_is_web T.F__law_is_web.kp T.b__law_is_web .nil pass0 (pa_cons (pv 6) (pa_cons (pv 1) (pa_cons (pe_lc (own := [("_law_y", 11), ("_law_x", 10)]) (g := (gTup K 2 (gCons (gName 11) (gCons (gName 10) gNil)))) (tt := tYes) rfl sc__law_turned_right.nd (pi_tup (pv 2)) (blkOk_by (N := N__law_turned_right) (sc := defScope s__law_turned_right) (by decide +kernel)) (fun _ _ _ _ _ => (pg_tup rfl (pgs_cons (pg_name (i := 11) sc__law_turned_right.nd rfl (by first | exact Or.inl rfl | exact Or.inr rfl)) (pgs_cons (pg_name (i := 10) sc__law_turned_right.nd rfl (by first | exact Or.inl rfl | exact Or.inr rfl)) pgs_nil)))) (fun _ _ _ _ _ => pts_nil) (fun _ _ _ _ _ => (pe_tupN (pa_cons (pe_ix (k_ix_tup K) (pv 4) (pv 11) (fun _ _ => rfl)) (pa_cons (pe_ix (k_ix_tup K) (pv 4) (pv 10) (fun _ _ => rfl)) pa_nil))))) pa_nil)))))) (pw_or1 (pt_cmpR (op_neG (ok_Web_eq T) T.eqf_Web T.eqi_Web T.b_Web_eq pass0 T.ne_Web T.ic_Web.hm (hr.mono (by omega))) (pe_call (G_renamed) (hr.mono (by omega)) rfl T.m_renamed T.F_renamed.kp T.b_renamed .nil pass0 (pa_cons (pv 6) (pa_cons (pv 5) pa_nil))) (pv 3) (nomark _)))))
    (pss_one (ps_ret pe_bl))
    pss_nil)
  (pss_cons (ps_for PassesOwn.never rfl (pi_list (pe_call (G__law_all_wires) (hr.mono (by omega)) rfl T.m__law_all_wires T.F__law_all_wires.kp T.b__law_all_wires .nil pass0 (pa_cons (pv 1) pa_nil))) (pg_name (i := 7) sc__law_turned_right.nd rfl (Or.inr rfl))
    (pss_one (ps_if (pt_cmpR (op_inDT (u65 hr)) (pv 7) (pv 2) (by rfl))
    (pss_cons (ps_set (i := 8) sc__law_turned_right.nd rfl (Or.inl rfl) (pe_call (G_without_wire) (hr.mono (by omega)) rfl T.m_without_wire T.F_without_wire.kp T.b_without_wire .nil pass0 (pa_cons (pv 3) (pa_cons (pv 7) pa_nil))))
  (pss_cons (ps_if (pt_not (pt_val (pe_call (G__law_is_web) (hr.mono (by omega)) rfl T.m__law_is_web T.F__law_is_web.kp T.b__law_is_web .nil pass0 (pa_cons (pv 8) (pa_cons (pv 1) (pa_cons (pe_lc (own := [("_law_other", 12)]) (g := (gName 12)) rfl sc__law_turned_right.nd (pi_tup (pv 2)) (blkOk_by (N := N__law_turned_right) (sc := defScope s__law_turned_right) (by decide +kernel)) (fun _ _ _ _ _ => (pg_name (i := 12) sc__law_turned_right.nd rfl (by first | exact Or.inl rfl | exact Or.inr rfl))) (fun _ _ _ _ _ => (pts_one (pt_cmpR (k_op_neD K hr.units) (pv 12) (pv 7) (nomark _)))) (fun _ _ _ _ _ => (pv 12))) pa_nil))))))
    (pss_one (ps_ret pe_bl))
    pss_nil)
  (pss_one (ps_if (pt_cmpR (op_neG (ok_Web_eq T) T.eqf_Web T.eqi_Web T.b_Web_eq pass0 T.ne_Web T.ic_Web.hm (hr.mono (by omega))) (pe_call (G_with_wire) (hr.mono (by omega)) rfl T.m_with_wire T.F_with_wire.kp T.b_with_wire .nil pass0 (pa_cons (pv 8) (pa_cons (pv 7) pa_nil))) (pv 3) (nomark _))
    (pss_one (ps_ret pe_bl))
    pss_nil))))
    (pss_cons (ps_set (i := 9) sc__law_turned_right.nd rfl (Or.inl rfl) (pe_call (G_with_wire) (hr.mono (by omega)) rfl T.m_with_wire T.F_with_wire.kp T.b_with_wire .nil pass0 (pa_cons (pv 3) (pa_cons (pv 7) pa_nil))))
  (pss_one (ps_if (L2.PW.pt (pw_or (pt_not (pt_val (pe_call (G__law_is_web) (hr.mono (by omega)) rfl T.m__law_is_web T.F__law_is_web.kp T.b__law_is_web .nil pass0 (pa_cons (pv 9) (pa_cons (pv 1) (pa_cons (pe_op op_catLN (pe_callTy call_listN (by rfl) T.n_list (by decide +kernel) (pa_cons (pv 2) pa_nil)) (pe_lstN (pa_cons (pv 7) pa_nil))) pa_nil)))))) (pw_or1 (pt_cmpR (op_neG (ok_Web_eq T) T.eqf_Web T.eqi_Web T.b_Web_eq pass0 T.ne_Web T.ic_Web.hm (hr.mono (by omega))) (pe_call (G_without_wire) (hr.mono (by omega)) rfl T.m_without_wire T.F_without_wire.kp T.b_without_wire .nil pass0 (pa_cons (pv 9) (pa_cons (pv 7) pa_nil))) (pv 3) (nomark _)))))
    (pss_one (ps_ret pe_bl))
    pss_nil))))))
  (pss_one (ps_ret (pe_cmpR (op_eqD hr.units) (pe_fld (pv 3) rfl) (pv 2) (nomark _)))))))))), ?_⟩
  walk_at "ws"
  refine web_new hwa hw fun x H1 hx1 g1 hxw => ?_
  walk_at "ws"
  have hh1 := (g1 (some (hd, c))).hand _ rfl hh
  refine ⟨hd, c, n, rfl, hh1, m1, m7, fun po os H2 g2 hh2 hpo ho _ => ?_⟩
  have hx2 := hxw.g g2 hh1
  have hwa2 := dp_t g2.tups _ _ (nl_dW ws) ((dp_n (g1 none)).1 _ _ hwa)
  have g02 := (g1 _).trans g2
  have hps : SqT K H2 po (os.map V.int) := hpo.sq
  have lo := ord_len ho
  walk_at "ws"
  refine i_rng1 (by omega) (by omega) ?_
  rw [Int.toNat_natCast]
  intro D hD
  refine lc_pure (K := K) (o := none) walk_range (by omega) hD (fun _ e => nomatch e) (fun (i : Nat) => some (PyData.int ((os.idxOf (i : Int) : Nat) : Int))) (fun _ _ => trivial) ?_ ?_
  · rintro i _ _ H3 hi g3 ⟨rfl, rfl⟩ Qy Qn ky kn
    have hps3 := sqT_t g3.tups hps
    walk_at "ws"
    refine ⟨rfl, ?_⟩
    walk_at "ws"
    have mi : (i : Int) ∈ os := (ho.mem _).mpr (by omega)
    refine w_bmt ?_
    walk_at "ws"
    refine ⟨⟨po, _, rfl, hpo.n g3⟩, ?_⟩
    walk_at "ws"
    refine ⟨po, os, (i : Int), os.idxOf (i : Int), rfl, by simp only [Int.zero_add], hps3, idx_at mi, fun j hj e => ?_, ?_⟩
    · have := idx_of ho.nd e
      omega
    · exact ky _ _ _ G.refl (.int _) rfl rfl
  intro xs H3 g3 hD3 hds _
  have e1 : ((List.range n).filterMap fun (i : Nat) => some (PyData.int ((os.idxOf (i : Int) : Nat) : Int))) = (bk os n).map PyData.int := by
    unfold bk
    rw [List.map_map, ← List.filterMap_eq_map]
    rfl
  rw [e1] at hds
  obtain rfl := DpAll.of_ints hds
  walk_at "ws"
  refine ⟨D, _, rfl, .inl ⟨SqL.of hD3, fun pb H4 hpb g4 h4 => ?_⟩⟩
  have g24 := g3.trans (g4 none)
  have hb4 : Dp K H4 (.ref pb) (dI (bk os n)) := dp_ofI (SqT.of h4)
  have hpo4 : Dp K H4 (.ref po) (dI os) := dp_ofI (sqT_t g24.tups hps)
  have hx4 := hx2.n g24
  have hwa4 := (dp_n g24).1 _ _ hwa2
  have g04 := g02.trans g24.up
  clear hD3 h4 g3 g4 hds hps hpo hx2 hwa2 g02 g24
  walk_at "ws"
  refine ⟨x, po, n, ws, os, rfl, hx4, hw, hpo4, ho, fun x5 ws5 H5 hx5 g5 hx5w hw5 mem5 => ?_⟩
  walk_at "ws"
  have hwa5 := (dp_n g5).1 _ _ hwa4
  obtain ⟨wa', vs, e, hvs, hwd⟩ := dp_tup hwa5
  cases e
  have lv := DpAll.length hwd
  rw [List.length_map] at lv
  have hps5 : SqT K H5 po (os.map V.int) := by
    obtain ⟨po', e, h⟩ := dp_dI ((dp_n g5).1 _ _ hpo4)
    cases e
    exact h
  refine i_tup hvs ?_
  intro D6 hD6
  refine lc_pure (K := K) (o := none) (walk_tup (xs := vs)) (by omega) hD6 (fun _ e => nomatch e) (fun i => ws[i]?.map fun v => dP (os.getD v.1.toNat 0, os.getD v.2.toNat 0)) (fun H' g => sqT_t g.tups hvs) ?_ ?_
  · rintro i y _ H6 hi g6 ⟨rfl, hy⟩ Qy Qn ky kn
    obtain ⟨d, hd', hyd⟩ := DpAll.get hwd hy
    rw [List.getElem?_map] at hd'
    obtain ⟨u, hu, rfl⟩ := Option.map_eq_some_iff.mp hd'
    obtain ⟨t, rfl, ht⟩ := dp_dP hyd
    have um := hw.mem u (List.mem_of_getElem? hu)
    obtain ⟨a1, _, _⟩ := ord_at ho um.1.1 um.1.2
    obtain ⟨b1, _, _⟩ := ord_at ho um.2.1.1 um.2.1.2
    refine ⟨t, _, rfl, sqT_t g6.tups ht, rfl, ?_⟩
    refine ⟨_, _, rfl, ?_⟩
    walk_at "ws"
    refine ⟨_, _, rfl, ?_⟩
    walk_at "ws"
    refine ⟨rfl, rfl, ?_⟩
    walk_at "ws"
    refine r_ixT (sqT_t g6.tups hps5) a1 ?_
    walk_at "ws"
    refine r_ixT (sqT_t g6.tups hps5) b1 ?_
    walk_at "ws"
    refine ⟨sz (by simp), fun q H7 hq g7 h7 => ?_⟩
    exact ky _ _ _ (g7 none) (dp_ofP (SqT.of h7)) (nl_dP _) (by rw [hu]; rfl)
  intro xs6 H6 g6 hD6' hds6 _
  rw [lv, filterMap_range_map] at hds6
  have e6 : (ws.map fun v => dP (os.getD v.1.toNat 0, os.getD v.2.toNat 0)) = (ws.map fun v => (os.getD v.1.toNat 0, os.getD v.2.toNat 0)).map dP := by rw [List.map_map]; rfl
  rw [e6] at hds6
  walk_at "ws"
  refine ⟨x5, n, D6, _, ws5, rfl, hx5w.n g6, hw5, .of hD6' hds6, fun u => ?_, by rw [List.length_map]; omega, fun H7 g7 => ?_⟩
  · rw [mem5, List.mem_map]
    exact ⟨fun ⟨v, a, b⟩ => ⟨v, a, b.symm⟩, fun ⟨v, a, b⟩ => ⟨v, a, b.symm⟩⟩
  have g47 := (g5.trans g6).trans g7
  have g57 := g6.trans g7
  walk_at "ws"
  refine ⟨x5, pb, n, ws5, bk os n, rfl, hx5w.n g57, hw5, (dp_n g47).1 _ _ hb4, bk_ord ho, fun x8 ws8 H8 hx8 g8 hx8w hw8 mem8 => ?_⟩
  walk_at "ws"
  have g48 := g47.trans g8
  have hx48 := hx4.n g48
  obtain rfl : ws8 = ws := ltP_eq hw8.asc hw.asc fun u => by
    rw [mem8]
    constructor
    · rintro ⟨v, hv, rfl⟩
      obtain ⟨z, hz, rfl⟩ := (mem5 v).mp hv
      have zm := hw.mem z hz
      simp only
      rw [bk_back ho zm.1.1 zm.1.2, bk_back ho zm.2.1.1 zm.2.1.2]
      exact hz
    · intro hu
      have um := hw.mem u hu
      exact ⟨_, (mem5 _).mpr ⟨u, hu, rfl⟩, by simp only; rw [bk_back ho um.1.1 um.1.2, bk_back ho um.2.1.1 um.2.1.2]⟩
  obtain ⟨dx, wi, hxi, _⟩ := id hx48
  obtain ⟨dy, wj, hyi, _⟩ := id hx8w
  refine ⟨⟨x8, x, dy, dx, _, _, rfl, rfl, hyi, hxi, n, _, hx8w, hx48⟩, fun H9 e9 => ?_⟩
  have g49 := g48.trans (ext_of e9)
  walk_at "ws"
  have hx9 := hx4.n g49
  have hwa9 := (dp_n g49).1 _ _ hwa4
  have g09 := g04.trans g49.up
  clear hyi hxi hx48 hx8w g48 g49 e9 g47 g57 g6 g7 hps5 hD6' hds6 hx5w hvs hwd
  refine ⟨n, rfl, m1, m7, fun L us HA hL fA memA lenA => ?_⟩
  obtain ⟨gA, ys, hLA, hysA⟩ := fA
  have ly := DpAll.length hysA
  rw [List.length_map] at ly
  refine i_list (SqL.of hLA) ?_
  refine for_it (walk_list (xs := ys)) (fun i σ H' => G none HA H' ∧ ∃ s7 s8 s9 s10 s11 s12, σ = [some (.ref hd), some (.int n), some (.ref wa), some (.ref x), some (.ref po), some (.ref pb), some (.ref x5), s7, s8, s9, s10, s11, s12]) ⟨G.refl, _, _, _, _, _, _, rfl⟩ (fun i σ H' _ h => SqL.of (h.1.all _ _ hLA)) ?_ ?_
  · rintro i v σ _ HB hi ⟨gB, s7, s8, s9, s10, s11, s12, rfl⟩ ⟨rfl, hv⟩
    obtain ⟨d, hd', hvd⟩ := DpAll.get hysA hv
    rw [List.getElem?_map] at hd'
    obtain ⟨w0, hw0, rfl⟩ := Option.map_eq_some_iff.mp hd'
    have ok0 : okP n w0 := (memA w0).mp (List.mem_of_getElem? hw0)
    obtain ⟨q, rfl, _⟩ := dp_dP hvd
    have g9B := gA.trans gB
    have hxB := hx9.n g9B
    have hwaB := (dp_n g9B).1 _ _ hwa9
    have hqB := (dp_n gB).1 _ _ hvd
    walk_at "ws"
    refine ⟨dP w0, ws8.map dP, hqB, hwaB, sh_dP w0, sh_dW ws8, ?_⟩
    rw [any_dP]
    walk_at "ws"
    refine w_ite (fun ei => ?_) (fun ei => ?_)
    · have inn : w0 ∈ ws8 := of_decide_eq_true ei
      walk_at "ws"
      refine ⟨x, q, n, ws8, w0, rfl, hxB, hw, hqB, ok0, inn, fun xC wsC HC hxC gC hxCw hwC memC => ?_⟩
      walk_at "ws"
      obtain ⟨wa', vs, e, hvs, hwd⟩ := dp_tup ((dp_n gC).1 _ _ hwaB)
      cases e
      have lv := DpAll.length hwd
      rw [List.length_map] at lv
      have hqC := (dp_n gC).1 _ _ hqB
      refine i_tup hvs ?_
      intro DD hDD
      refine lc_pure (K := K) (o := none) (walk_tup (xs := vs)) (by omega) hDD (fun _ e => nomatch e) (fun i => ws8[i]?.bind fun v => if v = w0 then none else some (dP v)) (fun H' g => sqT_t g.tups hvs) ?_ ?_
      · rintro j y _ HD hj gD ⟨rfl, hy⟩ Qy Qn ky kn
        obtain ⟨d, hd', hyd⟩ := DpAll.get hwd hy
        rw [List.getElem?_map] at hd'
        obtain ⟨u, hu, rfl⟩ := Option.map_eq_some_iff.mp hd'
        have hyd2 := (dp_n gD).1 _ _ hyd
        have hq2 := (dp_n gD).1 _ _ hqC
        walk_at "ws"
        refine ⟨rfl, ?_⟩
        walk_at "ws"
        refine ⟨dP u, dP w0, hyd2, hq2, sh_dP u, sh_dP w0, ?_⟩
        rw [eqv_dP]
        walk_at "ws"
        refine w_ite (fun e => ?_) (fun e => ?_)
        · walk_at "ws"
          have e' : ¬ u = w0 := by simpa using e
          exact ky _ _ _ G.refl hyd2 (nl_dP u) (by rw [hu, Option.bind_some, if_neg e'])
        · have e' : u = w0 := by simpa using e
          exact kn _ G.refl (by rw [hu, Option.bind_some, if_pos e'])
      intro xsD HD gD hDD' hdsD _
      rw [lv, filterMap_range_fm, keep_map] at hdsD
      walk_at "ws"
      refine ⟨xC, n, DD, _, wsC, rfl, hxCw.n gD, hwC, .of hDD' hdsD, fun u => by rw [memC, List.mem_filter]; simp, by have := List.length_filter_le (fun v => !decide (v = w0)) ws8; omega, fun HE gE => ?_⟩
      walk_at "ws"
      have gCE := gD.trans gE
      refine ⟨xC, q, n, wsC, w0, rfl, hxCw.n gCE, hwC, (dp_n gCE).1 _ _ hqC, ok0, fun h => ((memC w0).mp h).2 rfl, fun xF wsF HF hxF gF hxFw hwF memF => ?_⟩
      walk_at "ws"
      obtain rfl : wsF = ws8 := ltP_eq hwF.asc hw.asc fun u => by
        rw [memF]
        show (u ∈ wsC ∨ u = w0) ↔ _
        rw [memC]
        constructor
        · rintro (h | h)
          · exact h.1
          · rw [h]; exact inn
        · intro h
          by_cases c : u = w0
          · exact .inr c
          · exact .inl ⟨h, c⟩
      have gBF := (gC.trans gCE).trans gF
      have hxF2 := hxB.n gBF
      obtain ⟨dx, wi, hxi, _⟩ := id hxF2
      obtain ⟨dy, wj, hyi, _⟩ := id hxFw
      refine ⟨⟨xF, x, dy, dx, _, _, rfl, rfl, hyi, hxi, n, _, hxFw, hxF2⟩, fun HG eG => ?_⟩
      walk_at "ws"
      exact ⟨gB.trans (gBF.trans (ext_of eG)), _, _, _, _, _, _, rfl⟩
    · have inn : w0 ∉ ws8 := of_decide_eq_false ei
      walk_at "ws"
      refine ⟨x, q, n, ws8, w0, rfl, hxB, hw, hqB, ok0, inn, fun xC wsC HC hxC gC hxCw hwC memC => ?_⟩
      walk_at "ws"
      obtain ⟨wa', vs, e, hvs, hwd⟩ := dp_tup ((dp_n gC).1 _ _ hwaB)
      cases e
      have lv := DpAll.length hwd
      rw [List.length_map] at lv
      have hqC := (dp_n gC).1 _ _ hqB
      refine ⟨wa, vs, rfl, .inr hvs, fun l1 HD hl1 gD hD => ?_⟩
      walk_at "ws"
      refine ⟨sz (by simp), fun l2 HE hl2 gE hE => ?_⟩
      refine ⟨l1, l2, vs, _, rfl, rfl, (gE none).all _ _ hD, hE, by simp; omega, fun l3 HF hl3 gF hF => ?_⟩
      walk_at "ws"
      have gCF := ((gD none).trans (gE none)).trans (gF none)
      have hdsF : DpAll K HF (vs ++ [V.ref q]) ((ws8 ++ [w0]).map dP) := by
        rw [List.map_append]
        exact DpAll.app ((dp_n gCF).2 _ _ hwd) (DpAll.one ((dp_n gCF).1 _ _ hqC))
      refine ⟨xC, n, l3, ws8 ++ [w0], wsC, rfl, hxCw.n gCF, hwC, .of hF hdsF, fun u => by rw [memC]; simp, by simp; omega, fun HG gG => ?_⟩
      walk_at "ws"
      have gCG := gCF.trans gG
      refine ⟨xC, q, n, wsC, w0, rfl, hxCw.n gCG, hwC, (dp_n gCG).1 _ _ hqC, ok0, (memC w0).mpr (.inr rfl), fun xI wsI HI hxI gI hxIw hwI memI => ?_⟩
      walk_at "ws"
      obtain rfl : wsI = ws8 := ltP_eq hwI.asc hw.asc fun u => by
        rw [memI]
        show (u ∈ wsC ∧ u ≠ w0) ↔ _
        rw [memC]
        constructor
        · rintro ⟨h | h, c⟩
          · exact h
          · exact absurd h c
        · intro h
          exact ⟨.inl h, fun c => inn (c ▸ h)⟩
      have gBI := (gC.trans gCG).trans gI
      have hxI2 := hxB.n gBI
      obtain ⟨dx, wi, hxi, _⟩ := id hxI2
      obtain ⟨dy, wj, hyi, _⟩ := id hxIw
      refine ⟨⟨xI, x, dy, dx, _, _, rfl, rfl, hyi, hxi, n, _, hxIw, hxI2⟩, fun HJ eJ => ?_⟩
      walk_at "ws"
      exact ⟨gB.trans (gBI.trans (ext_of eJ)), _, _, _, _, _, _, rfl⟩
  · rintro σ HB ⟨gB, s7, s8, s9, s10, s11, s12, rfl⟩
    have g9B := gA.trans gB
    obtain ⟨dx, wi, hxi, hwi⟩ := hx9.n g9B
    walk_at "ws"
    refine r_fld hxi T.cl_Web T.na_Web_wires (wf_w _ _) ?_
    walk_at "ws"
    refine ⟨dW ws8, dW ws8, hwi, (dp_n g9B).1 _ _ hwa9, sh_dW ws8, sh_dW ws8, ?_⟩
    rw [eqv_dW, decide_eq_true (rfl : ws8 = ws8)]
    exact k _ (g09.trans g9B.up)

end
end Mine
/-! ## K17 -/


namespace Mine
section
variable {P : Program} {w : World} {K : PySem.W.Frag} {mg : Str → Option Value} {base : Heap} {a : Ads}

/-! ### the law -/
theorem swp_mem (us : List (Int × Int)) (u : Int × Int) : u ∈ swp us ↔ (u.2, u.1) ∈ us := by
  unfold swp
  rw [List.mem_map]
  constructor
  · rintro ⟨v, hv, rfl⟩
    exact hv
  · intro h
    exact ⟨_, h, rfl⟩
theorem swp_len (us : List (Int × Int)) : (us ++ swp us).length = 2 * us.length := by
  unfold swp
  rw [List.length_append, List.length_map]
  omega
theorem nb_mem (n : Nat) (u : Int × Int) : u ∈ nb n ↔ 0 ≤ u.1 ∧ u.1 < n ∧ u.2 = u.1 + 1 := by
  unfold nb
  rw [List.mem_map]
  constructor
  · rintro ⟨i, hi, rfl⟩
    have := List.mem_range.mp hi
    exact ⟨Int.natCast_nonneg i, by show (i : Int) < n; omega, rfl⟩
  · rintro ⟨h1, h2, h3⟩
    exact ⟨u.1.toNat, List.mem_range.mpr (by omega), Prod.ext (by show ((u.1.toNat : Nat) : Int) = u.1; omega) (by show ((u.1.toNat : Nat) : Int) + 1 = u.2; omega)⟩
theorem ringL_mem (m : Int) (u : Int × Int) : u ∈ ringL m ↔ (0 ≤ u.1 ∧ u.1 < (m - 1).toNat ∧ u.2 = u.1 + 1) ∨ (u.1 = m - 1 ∧ u.2 = 0) := by
  unfold ringL
  rw [List.mem_append, nb_mem]
  have e : u ∈ [(m - 1, (0 : Int))] ↔ (u.1 = m - 1 ∧ u.2 = 0) := by
    rw [List.mem_singleton]
    exact ⟨fun h => by rw [h]; exact ⟨rfl, rfl⟩, fun h => Prod.ext h.1 h.2⟩
  rw [e]
theorem web_eq {m : Int} {ws ws' : List (Int × Int)} (h : IsWeb m ws) (h' : IsWeb m ws') (e : ∀ u, u ∈ ws ↔ u ∈ ws') : ws = ws' := ltP_eq h.asc h'.asc e
theorem sh_dL (ws : List (Int × Int)) : SeqAt.shaped (.list (ws.map dP)) = true := sh_of (by
    rw [PyData.canLay0]
    exact canAll fun d h => by
      obtain ⟨n, _, rfl⟩ := List.mem_map.mp h
      exact can_dP n) (by
    rw [PyData.depth]
    have := depAll (n := 1) (ds := ws.map dP) fun d h => by
      obtain ⟨n, _, rfl⟩ := List.mem_map.mp h
      exact dep_dP n
    omega)
theorem eqv_dL (ws : List (Int × Int)) : PyData.eqv (.list (ws.map dP)) (.list (ws.map dP)) = true := by
  rw [PyData.eqv, eqvAll_map eqv_dP]; simp
def spLaw (K : PySem.W.Frag) : Sp := fun vs H Q _ => ∃ (s : Addr) (ns : List Int), vs = [.ref s] ∧ SqL K H s (ns.map V.int) ∧ ns.length ≤ 63 ∧ ∀ H', Q (.bl true) H'
theorem ok_law (T : Txt K mg a) : FnOk P w K mg base CX0 12 a.f_law a.d_law P_law (spLaw K) := by
  refine T.F_law.ok sc_law (fun vs H Q E h => by obtain ⟨s, ns, rfl, _⟩ := h; rfl) (fun cdv A outer s0 H vs Q E hr h => ?_)
  obtain ⟨s, ns, rfl, hs, hl, k⟩ := h
  have G__law_hand : FnOk P w K mg base CX0 1 a.f__law_hand a.d__law_hand P__law_hand (sp__law_hand K) := ok__law_hand T
  have G__law_draw : FnOk P w K mg base CX0 1 a.f__law_draw a.d__law_draw P__law_draw sp__law_draw := ok__law_draw T
  have G__law_web : FnOk P w K mg base CX0 2 a.f__law_web a.d__law_web P__law_web (sp__law_web K) := ok__law_web T
  have G__law_all_wires : FnOk P w K mg base CX0 1 a.f__law_all_wires a.d__law_all_wires P__law_all_wires (sp__law_all_wires K) := ok__law_all_wires T
  have G__law_doubled : FnOk P w K mg base CX0 1 a.f__law_doubled a.d__law_doubled P__law_doubled (sp__law_doubled K) := ok__law_doubled T
  have G__law_is_web : FnOk P w K mg base CX0 9 a.f__law_is_web a.d__law_is_web P__law_is_web (sp__law_is_web K a.c_Web) := ok__law_is_web T
  have G_both_ways : FnOk P w K mg base CX0 10 a.f_both_ways a.d_both_ways P_both_ways (sp_both_ways K a.c_Web) := ok_both_ways T
  have G_full : FnOk P w K mg base CX0 11 a.f_full a.d_full P_full (sp_full K a.c_Web) := ok_full T
  have G_hub : FnOk P w K mg base CX0 11 a.f_hub a.d_hub P_hub (sp_hub K a.c_Web) := ok_hub T
  have G_line : FnOk P w K mg base CX0 11 a.f_line a.d_line P_line (sp_line K a.c_Web) := ok_line T
  have G_ring : FnOk P w K mg base CX0 11 a.f_ring a.d_ring P_ring (sp_ring K a.c_Web) := ok_ring T
  have G__law_turned_right : FnOk P w K mg base CX0 11 a.f__law_turned_right a.d__law_turned_right P__law_turned_right (sp__law_turned_right K) := ok__law_turned_right T
  refine ⟨_, (pss_cons (ps_set (i := 1) sc_law.nd rfl (Or.inl rfl) (pe_call (G__law_hand) (hr.mono (by omega)) rfl T.m__law_hand T.F__law_hand.kp T.b__law_hand .nil pass0 (pa_cons (pv 0) pa_nil)))
  (pss_cons (ps_for PassesOwn.never rfl (pi_range1 rfl T.n_range (pa_cons pe_int pa_nil)) (pg_name (i := 2) sc_law.nd rfl (Or.inl rfl))
    (pss_cons (ps_set (i := 3) sc_law.nd rfl (Or.inl rfl) (pe_op op_add pe_int (pe_call (G__law_draw) (hr.mono (by omega)) rfl T.m__law_draw T.F__law_draw.kp T.b__law_draw .nil pass0 (pa_cons (pv 1) (pa_cons pe_int pa_nil)))))
  (pss_cons (ps_set (i := 4) sc_law.nd rfl (Or.inl rfl) (pe_lstN pa_nil))
  (pss_cons (ps_for PassesOwn.never rfl (pi_range1 rfl T.n_range (pa_cons (pe_call (G__law_draw) (hr.mono (by omega)) rfl T.m__law_draw T.F__law_draw.kp T.b__law_draw .nil pass0 (pa_cons (pv 1) (pa_cons pe_int pa_nil))) pa_nil)) (pg_name (i := 5) sc_law.nd rfl (Or.inl rfl))
    (pss_cons (ps_set (i := 6) sc_law.nd rfl (Or.inl rfl) (pe_call (G__law_all_wires) (hr.mono (by omega)) rfl T.m__law_all_wires T.F__law_all_wires.kp T.b__law_all_wires .nil pass0 (pa_cons (pv 3) pa_nil)))
  (pss_one (ps_if (pt_cmpR op_gt (pe_callB call_len_seq (by rfl) T.n_len (by decide +kernel) (pa_cons (pv 6) pa_nil)) pe_int (nomark _))
    (pss_one (ps_expr (pe_bm PySem.F.plainAttrs_list PySem.F.slot_list_append PySem.F.type_list_append mt_append (pv 4) (pa_cons (pe_ix ix_list (pv 6) (pe_call (G__law_draw) (hr.mono (by omega)) rfl T.m__law_draw T.F__law_draw.kp T.b__law_draw .nil pass0 (pa_cons (pv 1) (pa_cons (pe_callB call_len_seq (by rfl) T.n_len (by decide +kernel) (pa_cons (pv 6) pa_nil)) pa_nil))) (fun _ _ => rfl)) pa_nil))))
    pss_nil))))
  (pss_cons (ps_set (i := 7) sc_law.nd rfl (Or.inl rfl) (pe_callTy call_listN (by rfl) T.n_list (by decide +kernel) (pa_cons (pv 4) pa_nil)))
  (pss_cons (ps_for PassesOwn.never rfl (pi_list (pe_lstN (pa_cons (pv 4) (pa_cons (pe_callTy call_tupleN (by rfl) T.n_tuple (by decide +kernel) (pa_cons (pv 4) pa_nil)) pa_nil)))) (pg_name (i := 8) sc_law.nd rfl (Or.inl rfl))
    (pss_one (ps_if (pt_not (pt_val (pe_call (G__law_is_web) (hr.mono (by omega)) rfl T.m__law_is_web T.F__law_is_web.kp T.b__law_is_web .nil pass0 (pa_cons (pe_call (G_both_ways) (hr.mono (by omega)) rfl T.m_both_ways T.F_both_ways.kp T.b_both_ways .nil pass0 (pa_cons (pv 3) (pa_cons (pv 8) pa_nil))) (pa_cons (pv 3) (pa_cons (pe_call (G__law_doubled) (hr.mono (by omega)) rfl T.m__law_doubled T.F__law_doubled.kp T.b__law_doubled .nil pass0 (pa_cons (pv 7) pa_nil)) pa_nil))))))
    (pss_one (ps_ret pe_bl))
    pss_nil)))
  (pss_cons (ps_if (L2.PW.pt (pw_or (pt_cmpR (op_neD hr.units) (pv 4) (pv 7) (nomark _)) (pw_or1 (pt_not (pt_val (pe_call (G__law_is_web) (hr.mono (by omega)) rfl T.m__law_is_web T.F__law_is_web.kp T.b__law_is_web .nil pass0 (pa_cons (pe_call (G_full) (hr.mono (by omega)) rfl T.m_full T.F_full.kp T.b_full .nil pass0 (pa_cons (pv 3) pa_nil)) (pa_cons (pv 3) (pa_cons (pe_call (G__law_all_wires) (hr.mono (by omega)) rfl T.m__law_all_wires T.F__law_all_wires.kp T.b__law_all_wires .nil pass0 (pa_cons (pv 3) pa_nil)) pa_nil)))))))))
    (pss_one (ps_ret pe_bl))
    pss_nil)
  (pss_cons (ps_if (pt_not (pt_val (pe_call (G__law_is_web) (hr.mono (by omega)) rfl T.m__law_is_web T.F__law_is_web.kp T.b__law_is_web .nil pass0 (pa_cons (pe_call (G_hub) (hr.mono (by omega)) rfl T.m_hub T.F_hub.kp T.b_hub .nil pass0 (pa_cons (pv 3) pa_nil)) (pa_cons (pv 3) (pa_cons (pe_call (G__law_doubled) (hr.mono (by omega)) rfl T.m__law_doubled T.F__law_doubled.kp T.b__law_doubled .nil pass0 (pa_cons (pe_lc (own := [("_law_x", 10)]) (g := (gName 10)) (tt := tYes) rfl sc_law.nd (pi_range2 rfl T.n_range (pa_cons pe_int (pa_cons (pv 3) pa_nil))) (blkOk_by (N := N_law) (sc := defScope s_law) (by decide +kernel)) (fun _ _ _ _ _ => (pg_name (i := 10) sc_law.nd rfl (by first | exact Or.inl rfl | exact Or.inr rfl))) (fun _ _ _ _ _ => pts_nil) (fun _ _ _ _ _ => (pe_tupN (pa_cons pe_int (pa_cons (pv 10) pa_nil))))) pa_nil)) pa_nil))))))
    (pss_one (ps_ret pe_bl))
    pss_nil)
  (pss_cons (ps_setLc (i := 9) (own := [("_law_x", 10)]) (g := (gName 10)) (tt := tYes)  rfl sc_law.nd rfl rfl (sw_true rfl rfl rfl (by decide +kernel)) (pi_range1 rfl T.n_range (pa_cons (pe_op op_sub (pv 3) pe_int) pa_nil)) (blkOk_by (N := N_law) (sc := defScope s_law) (by decide +kernel)) (fun _ _ _ _ _ => (pg_name (i := 10) sc_law.nd rfl (by first | exact Or.inl rfl | exact Or.inr rfl))) (fun _ _ _ _ _ => pts_nil) (fun _ _ _ _ _ => (pe_tupN (pa_cons (pv 10) (pa_cons (pe_op op_add (pv 10) pe_int) pa_nil)))))
  (pss_cons (ps_if (pt_not (pt_val (pe_call (G__law_is_web) (hr.mono (by omega)) rfl T.m__law_is_web T.F__law_is_web.kp T.b__law_is_web .nil pass0 (pa_cons (pe_call (G_line) (hr.mono (by omega)) rfl T.m_line T.F_line.kp T.b_line .nil pass0 (pa_cons (pv 3) pa_nil)) (pa_cons (pv 3) (pa_cons (pe_call (G__law_doubled) (hr.mono (by omega)) rfl T.m__law_doubled T.F__law_doubled.kp T.b__law_doubled .nil pass0 (pa_cons (pv 9) pa_nil)) pa_nil))))))
    (pss_one (ps_ret pe_bl))
    pss_nil)
  (pss_cons (ps_if (L2.PW.pt (pw_and (pt_cmpR op_gt (pv 3) pe_int (nomark _)) (pw_and1 (pt_not (pt_val (pe_call (G__law_is_web) (hr.mono (by omega)) rfl T.m__law_is_web T.F__law_is_web.kp T.b__law_is_web .nil pass0 (pa_cons (pe_call (G_ring) (hr.mono (by omega)) rfl T.m_ring T.F_ring.kp T.b_ring .nil pass0 (pa_cons (pv 3) pa_nil)) (pa_cons (pv 3) (pa_cons (pe_call (G__law_doubled) (hr.mono (by omega)) rfl T.m__law_doubled T.F__law_doubled.kp T.b__law_doubled .nil pass0 (pa_cons (pe_op op_catLN (pv 9) (pe_lstN (pa_cons (pe_tupN (pa_cons pe_int (pa_cons (pe_op op_sub (pv 3) pe_int) pa_nil))) pa_nil))) pa_nil)) pa_nil)))))))))
    (pss_one (ps_ret pe_bl))
    pss_nil)
  (pss_one (ps_if (pt_not (pt_val (pe_call (G__law_turned_right) (hr.mono (by omega)) rfl T.m__law_turned_right T.F__law_turned_right.kp T.b__law_turned_right .nil pass0 (pa_cons (pv 1) (pa_cons (pv 3) (pa_cons (pe_call (G__law_web) (hr.mono (by omega)) rfl T.m__law_web T.F__law_web.kp T.b__law_web .nil pass0 (pa_cons (pv 1) (pa_cons (pv 3) pa_nil))) pa_nil))))))
    (pss_one (ps_ret pe_bl))
    pss_nil)))))))))))))
  (pss_one (ps_ret (pe_and (pe_cmpR (op_eqG (rcG_ins (ok_Web_eq T) T.eqf_Web T.eqi_Web T.b_Web_eq pass0) (hr.mono (by omega))) (pe_call (G_ring) (hr.mono (by omega)) rfl T.m_ring T.F_ring.kp T.b_ring .nil pass0 (pa_cons pe_int pa_nil)) (pe_call (G_full) (hr.mono (by omega)) rfl T.m_full T.F_full.kp T.b_full .nil pass0 (pa_cons pe_int pa_nil)) (nomark _)) (pe_and (pe_cmpR (op_eqG (rcG_ins (ok_Web_eq T) T.eqf_Web T.eqi_Web T.b_Web_eq pass0) (hr.mono (by omega))) (pe_call (G_hub) (hr.mono (by omega)) rfl T.m_hub T.F_hub.kp T.b_hub .nil pass0 (pa_cons pe_int pa_nil)) (pe_call (G_line) (hr.mono (by omega)) rfl T.m_line T.F_line.kp T.b_line .nil pass0 (pa_cons pe_int pa_nil)) (nomark _)) (pe_one (pe_cmpR (op_eqD hr.units) (pe_fld (pe_call (G_full) (hr.mono (by omega)) rfl T.m_full T.F_full.kp T.b_full .nil pass0 (pa_cons pe_int pa_nil)) rfl) (pe_tupN pa_nil) (nomark _))))))))), ?_⟩
  walk_at "ws"
  refine ⟨s, ns, rfl, hs, hl, fun hd c H1 g1 hh1 => ?_⟩
  walk_at "ws"
  refine i_rng1 (by decide) (by decide) ?_
  refine for_it walk_range (fun i σ H' => Hand H' hd c ∧ ∃ u2 u3 u4 u5 u6 u7 u8 u9 u10, σ = [some (.ref s), some (.ref hd), u2, u3, u4, u5, u6, u7, u8, u9, u10]) ⟨hh1, _, _, _, _, _, _, _, _, _, rfl⟩ (fun _ _ _ _ _ => trivial) ?_ ?_
  · rintro turn _ σ _ H2 ht ⟨hh2, u2, u3, u4, u5, u6, u7, u8, u9, u10, rfl⟩ ⟨rfl, rfl⟩
    walk_at "ws"
    refine ⟨hd, c, 7, rfl, hh2, by decide, by decide, fun r H3 r0 r1 g3 hh3 => ?_⟩
    walk_at "ws"
    obtain ⟨m, em⟩ : ∃ m : Int, m = 1 + r := ⟨_, rfl⟩
    rw [← em]
    have m1 : 1 ≤ m := by omega
    have m7 : m ≤ 7 := by omega
    refine ⟨sz (by simp), fun l H4 hl4 g4 h4 => ?_⟩
    have hhp : ∀ p, some (hd, c) = some p → Hand H3 p.1 p.2 := fun p e => by cases e; exact hh3
    have offl : ∀ p, some (hd, c) = some p → l ≠ p.1 := fun p e => by cases e; exact hh3.ne hl4
    walk_at "ws"
    refine ⟨hd, c, 9, rfl, (g4 (some (hd, c))).hand _ rfl hh3, by decide, by decide, fun r2 H5 r20 r21 g5 hh5 => ?_⟩
    walk_at "ws"
    refine i_rng1 (by omega) (by omega) ?_
    refine for_it walk_range (fun i σ H' => (∃ us : List (Int × Int), Fil K (some (hd, c)) H3 H' l us ∧ (∀ u ∈ us, okP m u) ∧ us.length ≤ i) ∧ ∃ u5 u6, σ = [some (.ref s), some (.ref hd), some (.int (0 + (turn : Int))), some (.int m), some (.ref l), u5, u6, u7, u8, u9, u10]) ⟨⟨[], ⟨(g4 _).trans g5, [], g5.keep _ _ offl h4, .nil⟩, (fun _ h => nomatch h), Nat.le_refl _⟩, _, _, rfl⟩ (fun _ _ _ _ _ => trivial) ?_ ?_
    · rintro i _ σ _ H6 hi ⟨⟨us, f6, hu, hlen⟩, u5, u6, rfl⟩ ⟨rfl, rfl⟩
      walk_at "ws"
      refine ⟨m, rfl, m1, m7, fun D us2 H7 hD f7 mem7 len7 => ?_⟩
      obtain ⟨g7, ys, h7, hys⟩ := f7
      have f67 := f6.g g7.up offl
      have ly := DpAll.length hys
      rw [List.length_map] at ly
      walk_at "ws"
      refine ⟨D, ys, rfl, .inl (SqL.of h7), ?_⟩
      walk_at "ws"
      refine w_ite (fun e => ?_) (fun e => ?_)
      · have pos : (0 : Int) < (ys.length : Int) := by simpa using e
        have hh7 : Hand H7 hd c := f67.1.hand (hd, c) rfl hh3
        obtain ⟨_, xs0, hx0, _⟩ := id f67
        walk_at "ws"
        refine i_BM hx0 ?_
        walk_at "ws"
        refine ⟨D, ys, rfl, .inl (SqL.of h7), ?_⟩
        walk_at "ws"
        refine ⟨hd, c, (ys.length : Int), rfl, hh7, pos, by omega, fun r3 H8 r30 r31 g8 hh8 => ?_⟩
        have nD : D ≠ hd := by
          have hh6 : Hand H6 hd c := f6.1.hand (hd, c) rfl hh3
          exact hh6.ne hD
        have h8 := g8.keep D _ (fun p e => by cases e; exact nD) h7
        have hys8 := dpAll_t g8.tups _ _ (nls_pairs us2) hys
        obtain ⟨v, hv⟩ : ∃ v, ys[r3.toNat]? = some v := ⟨_, List.getElem?_eq_getElem (show r3.toNat < ys.length by omega)⟩
        obtain ⟨d, hd1, hvd⟩ := DpAll.get hys8 hv
        rw [List.getElem?_map] at hd1
        obtain ⟨w0, hw0, rfl⟩ := Option.map_eq_some_iff.mp hd1
        refine r_ixL (SqL.of h8) (v := v) (at_of (j := r3.toNat) (by omega) hv) ?_
        walk_at "ws"
        obtain ⟨acc, z1, z2, z3⟩ := (f67.g g8 offl).app hl4 hhp hvd (by omega)
        refine ⟨l, acc, v, rfl, rfl, z1, z2, ?_⟩
        walk_at "ws"
        refine ⟨⟨us ++ [w0], z3, fun u hu' => ?_, by rw [List.length_append, List.length_singleton]; omega⟩, _, _, rfl⟩
        rcases List.mem_append.mp hu' with h | h
        · exact hu u h
        · have e : u = w0 := by simpa using h
          rw [e]
          exact (mem7 w0).mp (List.mem_of_getElem? hw0)
      · walk_at "ws"
        exact ⟨⟨us, f67, hu, by omega⟩, _, _, rfl⟩
    rintro σ H6 ⟨⟨us, ⟨g36, xs, h6, hxs⟩, hu, hlen⟩, u5, u6, rfl⟩
    have hh6 : Hand H6 hd c := g36.hand (hd, c) rfl hh3
    have hlen : us.length ≤ 8 := by omega
    have lx := DpAll.length hxs
    rw [List.length_map] at lx
    clear g36 g5 g4 hh5 hhp offl h4 hl4 g3 hh3 hh2 r20 r21
    walk_at "ws"
    refine ⟨l, xs, rfl, .inl (SqL.of h6), fun kp H7 hkp g7 h7 => ?_⟩
    walk_at "ws"
    refine ⟨l, xs, rfl, .inl ⟨SqL.of ((g7 none).all _ _ h6), fun t H8 ht8 g8 h8 => ?_⟩⟩
    walk_at "ws"
    refine ⟨sz (by simp), fun l9 H9 hl9 g9 h9 => ?_⟩
    have g69 := ((g7 none).trans (g8 none)).trans (g9 none)
    have h9l := g69.all _ _ h6
    have h9k := ((g8 none).trans (g9 none)).all _ _ h7
    have h9t := (g9 none).all _ _ h8
    have hxs9 := (dp_n g69).2 _ _ hxs
    have hh9 : Hand H9 hd c := (g69.up (o := some (hd, c))).hand (hd, c) rfl hh6
    clear g69 h6 h7 h8 g7 g8 g9 hxs hh6
    refine i_list (SqL.of h9) ?_
    refine for_it (walk_list (xs := [V.ref l, V.ref t])) (fun i σ H' => G none H9 H' ∧ ∃ u8, σ = [some (.ref s), some (.ref hd), some (.int (0 + (turn : Int))), some (.int m), some (.ref l), u5, u6, some (.ref kp), u8, u9, u10]) ⟨G.refl, _, rfl⟩ (fun i σ H' _ h => SqL.of (h.1.all _ _ h9)) ?_ ?_
    · rintro i v σ _ HA hi ⟨gA, u8, rfl⟩ ⟨rfl, hv⟩
      have hp : ∃ p, v = .ref p ∧ PL K HA p us := by
        have c : v = .ref l ∨ v = .ref t := by
          match i, hi, hv with
          | 0, _, hv => exact .inl (Option.some.inj hv).symm
          | 1, _, hv => exact .inr (Option.some.inj hv).symm
        rcases c with rfl | rfl
        · exact ⟨l, rfl, (PL.of h9l hxs9).n gA⟩
        · exact ⟨t, rfl, PL.n ⟨xs, .inr (SqT.of h9t), hxs9⟩ gA⟩
      obtain ⟨p, rfl, hp⟩ := hp
      walk_at "ws"
      refine ⟨m, p, us, rfl, hp, hu, by omega, m1, m7, fun x ws HB hx gB hxw iw mem => ?_⟩
      walk_at "ws"
      have gAB := gA.trans gB
      refine ⟨kp, xs, us, rfl, gAB.all _ _ h9k, (dp_n gAB).2 _ _ hxs9, by omega, fun D ys HC hD gC hDC hys => ?_⟩
      walk_at "ws"
      refine ⟨x, m, D, us ++ swp us, ws, rfl, hxw.n gC, iw, .of hDC hys, fun u => by rw [mem, List.mem_append, swp_mem], by rw [swp_len]; omega, fun HD gD => ?_⟩
      walk_at "ws"
      exact ⟨(gAB.trans gC).trans gD, _, rfl⟩
    rintro σ HA ⟨gA, u8, rfl⟩
    have hla := gA.all _ _ h9l
    have hka := gA.all _ _ h9k
    have hxa := (dp_n gA).2 _ _ hxs9
    have hhA : Hand HA hd c := (gA.up (o := some (hd, c))).hand (hd, c) rfl hh9
    walk_at "ws"
    refine ⟨.list (us.map dP), .list (us.map dP), .lst (SqL.of hla) hxa, .lst (SqL.of hka) hxa, sh_dL us, sh_dL us, ?_⟩
    rw [eqv_dL]
    walk_at "ws"
    refine ⟨m, rfl, m1, m7, fun x ws HB hx gB hxw iw mem => ?_⟩
    walk_at "ws"
    refine ⟨m, rfl, m1, m7, fun D us2 HC hD fC memC lenC => ?_⟩
    walk_at "ws"
    refine ⟨x, m, D, us2, ws, rfl, hxw.n fC.1, iw, Fil.pl fC, fun u => by rw [mem, memC], by omega, fun HD gD => ?_⟩
    have gAD := (gB.trans fC.1).trans gD
    walk_at "ws"
    clear hla hka hxa h9l h9k h9t hxs9 h9 hh9 gA fC gB gD hxw
    refine ⟨m, rfl, m1, m7, fun x ws HE hx gE hxw iw mem => ?_⟩
    walk_at "ws"
    obtain ⟨n, rfl⟩ : ∃ n : Nat, m = (n : Int) + 1 := ⟨(m - 1).toNat, by omega⟩
    have en : ((n : Int) + 1 - 1).toNat = n := by omega
    refine i_rng2 (by omega) ?_
    rw [en]
    intro DF hDF
    refine lc_pure (K := K) (o := none) walk_range (by omega) hDF (fun _ e => nomatch e) (fun (i : Nat) => some (dP ((0 : Int), 1 + (i : Int)))) (fun _ _ => trivial) ?_ ?_
    · rintro i _ _ HF hi gF ⟨rfl, rfl⟩ Qy Qn ky kn
      walk_at "ws"
      refine ⟨rfl, ?_⟩
      walk_at "ws"
      refine ⟨sz (by simp), fun t HG ht gG hG => ?_⟩
      exact ky _ _ _ (gG none) (dp_ofP (SqT.of hG)) (nl_dP _) rfl
    intro xsF HF gF hDF' hdsF _
    have eF : (List.range n).filterMap (fun (i : Nat) => some (dP ((0 : Int), 1 + (i : Int)))) = (hubL n).map dP := by
      unfold hubL
      rw [List.map_map, ← List.filterMap_eq_map]
      rfl
    rw [eF] at hdsF
    have lF : (hubL n).length = n := by unfold hubL; rw [List.length_map, List.length_range]
    walk_at "ws"
    refine ⟨DF, xsF, hubL n, rfl, hDF', hdsF, by omega, fun DG ysG HG hDG gG hDG' hysG => ?_⟩
    walk_at "ws"
    refine ⟨x, _, DG, _, ws, rfl, hxw.n (gF.trans gG), iw, .of hDG' hysG, fun u => ?_, by rw [swp_len]; omega, fun HH gH => ?_⟩
    · rw [mem, List.mem_append, swp_mem, hubL_mem, hubL_mem]
      unfold hubP okP
      simp only
      omega
    have gAH := gAD.trans (((gE.trans gF).trans gG).trans gH)
    walk_at "ws"
    clear hDF' hdsF hDG' hysG gF gG gH gE gAD hxw
    refine i_rng1 (by omega) (by omega) ?_
    rw [en]
    intro DI hDI
    refine lc_pure (K := K) (o := none) walk_range (by omega) hDI (fun _ e => nomatch e) (fun (i : Nat) => some (dP ((i : Int), (i : Int) + 1))) (fun _ _ => trivial) ?_ ?_
    · rintro i _ _ HI hi gI ⟨rfl, rfl⟩ Qy Qn ky kn
      walk_at "ws"
      refine ⟨rfl, ?_⟩
      walk_at "ws"
      refine ⟨sz (by simp), fun t HJ ht gJ hJ => ?_⟩
      exact ky _ _ _ (gJ none) (dp_ofP (SqT.of hJ)) (nl_dP _) (by rw [Int.zero_add])
    intro xsI HI gI hDI' hdsI _
    have eI : (List.range n).filterMap (fun (i : Nat) => some (dP ((i : Int), (i : Int) + 1))) = (nb n).map dP := by
      unfold nb
      rw [List.map_map, ← List.filterMap_eq_map]
      rfl
    rw [eI] at hdsI
    have lI := DpAll.length hdsI
    rw [List.length_map, nb_len] at lI
    have gAI := gAH.trans gI
    walk_at "ws"
    refine ⟨_, rfl, m1, m7, fun x ws HJ hx gJ hxw iw mem => ?_⟩
    walk_at "ws"
    refine ⟨DI, xsI, nb n, rfl, gJ.all _ _ hDI', (dp_n gJ).2 _ _ hdsI, by rw [nb_len]; omega, fun DL ysL HL hDL gL hDL' hysL => ?_⟩
    walk_at "ws"
    refine ⟨x, _, DL, _, ws, rfl, hxw.n gL, iw, .of hDL' hysL, fun u => ?_, by rw [swp_len, nb_len]; omega, fun HM gM => ?_⟩
    · rw [mem, List.mem_append, swp_mem]
      unfold lineP
      rw [en]
    have gIM := (gJ.trans gL).trans gM
    clear hxw hDL' hysL gJ gL gM
    walk_at "wn"
    -- the ring, if there are three; the rest of the turn
    dsimp only
    refine w_seqM (fun σ HN => G none HI HN ∧ σ = [some (.ref s), some (.ref hd), some (.int (0 + (turn : Int))), some (.int ((n : Int) + 1)), some (.ref l), u5, u6, some (.ref kp), u8, some (.ref DI), u10]) (fun N kN => ?_) ?_
    · walk_at "ws"
      refine w_ite (fun e => ?_) (fun e => ?_)
      · have n2 : (2 : Int) < (n : Int) + 1 := of_decide_eq_true e
        walk_at "ws"
        refine ⟨_, rfl, by omega, m7, fun x ws HN hx gN hxw iw mem => ?_⟩
        walk_at "ws"
        refine ⟨sz (by simp), fun t HO ht gO hO => ?_⟩
        walk_at "ws"
        refine ⟨sz (by simp), fun l1 HP hl1 gP hP => ?_⟩
        have gIP := ((gIM.trans gN).trans (gO none)).trans (gP none)
        refine ⟨DI, l1, xsI, _, rfl, rfl, gIP.all _ _ hDI', hP, by simp; omega, fun l2 HR hl2 gR hR => ?_⟩
        walk_at "ws"
        have gIR := gIP.trans (gR none)
        have hdsR : DpAll K HR (xsI ++ [V.ref t]) ((nb n ++ [((0 : Int), (n : Int) + 1 - 1)]).map dP) := by
          rw [List.map_append]
          exact DpAll.app ((dp_n gIR).2 _ _ hdsI) (DpAll.one (dp_ofP (SqT.of (((gP none).trans (gR none)).all _ _ hO))))
        refine ⟨l2, _, _, rfl, hR, hdsR, by rw [List.length_append, nb_len]; simp; omega, fun DS ysS HS hDS gS hDS' hysS => ?_⟩
        walk_at "ws"
        refine ⟨x, _, DS, _, ws, rfl, hxw.n ((((gO none).trans (gP none)).trans (gR none)).trans gS), iw, .of hDS' hysS, fun u => ?_, by rw [swp_len, List.length_append, nb_len]; simp; omega, fun HT gT => ?_⟩
        · rw [mem, List.mem_append, swp_mem]
          unfold ringP
          rw [ringL_mem, ringL_mem, List.mem_append, List.mem_append, nb_mem, nb_mem, List.mem_singleton, List.mem_singleton, Prod.ext_iff, Prod.ext_iff]
          simp only
          omega
        walk_at "ws"
        exact kN _ _ ⟨(gIR.trans gS).trans gT, rfl⟩
      · walk_at "ws"
        exact kN _ _ ⟨gIM, rfl⟩
    · rintro σ HN ⟨gN, rfl⟩
      have hhN : Hand HN hd c := ((gAI.trans gN).up (o := some (hd, c))).hand (hd, c) rfl hhA
      walk_at "ws"
      refine ⟨hd, c, _, rfl, hhN, m1, m7, fun p ws HO gO hhO hp iw => ?_⟩
      walk_at "ws"
      refine ⟨hd, c, _, p, ws, rfl, hhO, iw, hp, fun HP gP => ?_⟩
      walk_at "ws"
      exact ⟨gP.hand (hd, c) rfl hhO, _, _, _, _, _, _, _, _, _, rfl⟩
  · rintro σ H2 ⟨hh2, u2, u3, u4, u5, u6, u7, u8, u9, u10, rfl⟩
    walk_at "ws"
    refine ⟨3, rfl, by decide, by decide, fun x1 ws1 H3 hx1 g3 hx1w iw1 mem1 => ?_⟩
    walk_at "ws"
    refine ⟨3, rfl, by decide, by decide, fun x2 ws2 H4 hx2 g4 hx2w iw2 mem2 => ?_⟩
    obtain rfl : ws1 = ws2 := web_eq iw1 iw2 fun u => by
      rw [mem1, mem2]
      unfold ringP okP
      rw [ringL_mem, ringL_mem]
      simp only
      omega
    have hx14 := hx1w.n g4
    obtain ⟨dx1, wa1, hi1, _⟩ := id hx14
    obtain ⟨dx2, wa2, hi2, _⟩ := id hx2w
    refine ⟨⟨x1, x2, dx1, dx2, _, _, rfl, rfl, hi1, hi2, 3, _, hx14, hx2w⟩, fun H5 e5 => ?_⟩
    walk_at "ws"
    refine ⟨2, rfl, by decide, by decide, fun x3 ws3 H6 hx3 g6 hx3w iw3 mem3 => ?_⟩
    walk_at "ws"
    refine ⟨2, rfl, by decide, by decide, fun x4 ws4 H7 hx4 g7 hx4w iw4 mem4 => ?_⟩
    obtain rfl : ws3 = ws4 := web_eq iw3 iw4 fun u => by
      rw [mem3, mem4]
      unfold hubP okP lineP
      rw [nb_mem, nb_mem]
      simp only
      omega
    have hx37 := hx3w.n g7
    obtain ⟨dx3, wa3, hi3, _⟩ := id hx37
    obtain ⟨dx4, wa4, hi4, _⟩ := id hx4w
    refine ⟨⟨x3, x4, dx3, dx4, _, _, rfl, rfl, hi3, hi4, 2, _, hx37, hx4w⟩, fun H8 e8 => ?_⟩
    walk_at "ws"
    refine ⟨1, rfl, by decide, by decide, fun x5 ws5 H9 hx5 g9 hx5w iw5 mem5 => ?_⟩
    walk_at "ws"
    obtain rfl : ws5 = [] := List.eq_nil_iff_forall_not_mem.mpr fun u hu => by
      have := (mem5 u).mp hu
      unfold okP at this
      omega
    obtain ⟨dx5, wa5, hi5, hw5⟩ := hx5w
    refine r_fld hi5 T.cl_Web T.na_Web_wires (wf_w _ _) ?_
    walk_at "ws"
    refine ⟨sz (by simp), fun t HA ht gA hA => ?_⟩
    refine ⟨dW [], dW [], (dp_n (gA none)).1 _ _ hw5, .tup (SqT.of hA) .nil, sh_dW _, sh_dW _, ?_⟩
    rw [eqv_dW]
    exact k _

end
end Mine
/-! ## KN -/
end
namespace Mine
open PySem L2 GA
/-- what the head finds on the heap is what the proofs lean on -/
theorem all_mk {l : PySem.W.OpenLaw} {w : World} {K : PySem.W.Frag} {h : Heap} {mg : Str → Option Value} {fa : Addr} (X : K.In h) (G : h.Ns mainGlobals mg) (hfa : mg "law" = some (.ref fa))
    {ff_is_integer : Addr} {od_is_integer an_is_integer : Option Addr} {sl_is_integer : Array (Option Value)} {oc_is_integer kV_is_integer dc_is_integer pm_is_integer cd_is_integer ct_is_integer : Value}
    {ff_is_between : Addr} {od_is_between an_is_between : Option Addr} {sl_is_between : Array (Option Value)} {oc_is_between kV_is_between dc_is_between pm_is_between cd_is_between ct_is_between : Value}
    {ff_is_below : Addr} {od_is_below an_is_below : Option Addr} {sl_is_below : Array (Option Value)} {oc_is_below kV_is_below dc_is_below pm_is_below cd_is_below ct_is_below : Value}
    {ff_is_list_or_tuple : Addr} {od_is_list_or_tuple an_is_list_or_tuple : Option Addr} {sl_is_list_or_tuple : Array (Option Value)} {oc_is_list_or_tuple kV_is_list_or_tuple dc_is_list_or_tuple pm_is_list_or_tuple cd_is_list_or_tuple ct_is_list_or_tuple : Value}
    {ff_is_tuple_of : Addr} {od_is_tuple_of an_is_tuple_of : Option Addr} {sl_is_tuple_of : Array (Option Value)} {oc_is_tuple_of kV_is_tuple_of dc_is_tuple_of pm_is_tuple_of cd_is_tuple_of ct_is_tuple_of : Value}
    {ff_are_below : Addr} {od_are_below an_are_below : Option Addr} {sl_are_below : Array (Option Value)} {oc_are_below kV_are_below dc_are_below pm_are_below cd_are_below ct_are_below : Value}
    {ff_is_unlike_pair : Addr} {od_is_unlike_pair an_is_unlike_pair : Option Addr} {sl_is_unlike_pair : Array (Option Value)} {oc_is_unlike_pair kV_is_unlike_pair dc_is_unlike_pair pm_is_unlike_pair cd_is_unlike_pair ct_is_unlike_pair : Value}
    {ff_Web_init : Addr} {od_Web_init an_Web_init : Option Addr} {sl_Web_init : Array (Option Value)} {oc_Web_init kV_Web_init dc_Web_init pm_Web_init cd_Web_init ct_Web_init : Value}
    {ff_Web_eq : Addr} {od_Web_eq an_Web_eq : Option Addr} {sl_Web_eq : Array (Option Value)} {oc_Web_eq kV_Web_eq dc_Web_eq pm_Web_eq cd_Web_eq ct_Web_eq : Value}
    {ff_first_wrong_wire : Addr} {od_first_wrong_wire an_first_wrong_wire : Option Addr} {sl_first_wrong_wire : Array (Option Value)} {oc_first_wrong_wire kV_first_wrong_wire dc_first_wrong_wire pm_first_wrong_wire cd_first_wrong_wire ct_first_wrong_wire : Value}
    {ff_web_of_any_size : Addr} {od_web_of_any_size an_web_of_any_size : Option Addr} {sl_web_of_any_size : Array (Option Value)} {oc_web_of_any_size kV_web_of_any_size dc_web_of_any_size pm_web_of_any_size cd_web_of_any_size ct_web_of_any_size : Value}
    {ff_there_and_back : Addr} {od_there_and_back an_there_and_back : Option Addr} {sl_there_and_back : Array (Option Value)} {oc_there_and_back kV_there_and_back dc_there_and_back pm_there_and_back cd_there_and_back ct_there_and_back : Value}
    {ff_all_but : Addr} {od_all_but an_all_but : Option Addr} {sl_all_but : Array (Option Value)} {oc_all_but kV_all_but dc_all_but pm_all_but cd_all_but ct_all_but : Value}
    {ff_check_number : Addr} {od_check_number an_check_number : Option Addr} {sl_check_number : Array (Option Value)} {oc_check_number kV_check_number dc_check_number pm_check_number cd_check_number ct_check_number : Value}
    {ff_are_pairs : Addr} {od_are_pairs an_are_pairs : Option Addr} {sl_are_pairs : Array (Option Value)} {oc_are_pairs kV_are_pairs dc_are_pairs pm_are_pairs cd_are_pairs ct_are_pairs : Value}
    {ff_both_ways : Addr} {od_both_ways an_both_ways : Option Addr} {sl_both_ways : Array (Option Value)} {oc_both_ways kV_both_ways dc_both_ways pm_both_ways cd_both_ways ct_both_ways : Value}
    {ff_full : Addr} {od_full an_full : Option Addr} {sl_full : Array (Option Value)} {oc_full kV_full dc_full pm_full cd_full ct_full : Value}
    {ff_web_of_all_wires : Addr} {od_web_of_all_wires an_web_of_all_wires : Option Addr} {sl_web_of_all_wires : Array (Option Value)} {oc_web_of_all_wires kV_web_of_all_wires dc_web_of_all_wires pm_web_of_all_wires cd_web_of_all_wires ct_web_of_all_wires : Value}
    {ff_hub : Addr} {od_hub an_hub : Option Addr} {sl_hub : Array (Option Value)} {oc_hub kV_hub dc_hub pm_hub cd_hub ct_hub : Value}
    {ff_line : Addr} {od_line an_line : Option Addr} {sl_line : Array (Option Value)} {oc_line kV_line dc_line pm_line cd_line ct_line : Value}
    {ff_ring : Addr} {od_ring an_ring : Option Addr} {sl_ring : Array (Option Value)} {oc_ring kV_ring dc_ring pm_ring cd_ring ct_ring : Value}
    {ff_neighbours : Addr} {od_neighbours an_neighbours : Option Addr} {sl_neighbours : Array (Option Value)} {oc_neighbours kV_neighbours dc_neighbours pm_neighbours cd_neighbours ct_neighbours : Value}
    {ff_renamed : Addr} {od_renamed an_renamed : Option Addr} {sl_renamed : Array (Option Value)} {oc_renamed kV_renamed dc_renamed pm_renamed cd_renamed ct_renamed : Value}
    {ff_is_order : Addr} {od_is_order an_is_order : Option Addr} {sl_is_order : Array (Option Value)} {oc_is_order kV_is_order dc_is_order pm_is_order cd_is_order ct_is_order : Value}
    {ff_with_wire : Addr} {od_with_wire an_with_wire : Option Addr} {sl_with_wire : Array (Option Value)} {oc_with_wire kV_with_wire dc_with_wire pm_with_wire cd_with_wire ct_with_wire : Value}
    {ff_without_wire : Addr} {od_without_wire an_without_wire : Option Addr} {sl_without_wire : Array (Option Value)} {oc_without_wire kV_without_wire dc_without_wire pm_without_wire cd_without_wire ct_without_wire : Value}
    {ff__law_hand : Addr} {od__law_hand an__law_hand : Option Addr} {sl__law_hand : Array (Option Value)} {oc__law_hand kV__law_hand dc__law_hand pm__law_hand cd__law_hand ct__law_hand : Value}
    {ff__law_draw : Addr} {od__law_draw an__law_draw : Option Addr} {sl__law_draw : Array (Option Value)} {oc__law_draw kV__law_draw dc__law_draw pm__law_draw cd__law_draw ct__law_draw : Value}
    {ff__law_is : Addr} {od__law_is an__law_is : Option Addr} {sl__law_is : Array (Option Value)} {oc__law_is kV__law_is dc__law_is pm__law_is cd__law_is ct__law_is : Value}
    {ff__law_web : Addr} {od__law_web an__law_web : Option Addr} {sl__law_web : Array (Option Value)} {oc__law_web kV__law_web dc__law_web pm__law_web cd__law_web ct__law_web : Value}
    {ff__law_all_wires : Addr} {od__law_all_wires an__law_all_wires : Option Addr} {sl__law_all_wires : Array (Option Value)} {oc__law_all_wires kV__law_all_wires dc__law_all_wires pm__law_all_wires cd__law_all_wires ct__law_all_wires : Value}
    {ff__law_is_web : Addr} {od__law_is_web an__law_is_web : Option Addr} {sl__law_is_web : Array (Option Value)} {oc__law_is_web kV__law_is_web dc__law_is_web pm__law_is_web cd__law_is_web ct__law_is_web : Value}
    {ff__law_doubled : Addr} {od__law_doubled an__law_doubled : Option Addr} {sl__law_doubled : Array (Option Value)} {oc__law_doubled kV__law_doubled dc__law_doubled pm__law_doubled cd__law_doubled ct__law_doubled : Value}
    {ff__law_order : Addr} {od__law_order an__law_order : Option Addr} {sl__law_order : Array (Option Value)} {oc__law_order kV__law_order dc__law_order pm__law_order cd__law_order ct__law_order : Value}
    {ff__law_turned_right : Addr} {od__law_turned_right an__law_turned_right : Option Addr} {sl__law_turned_right : Array (Option Value)} {oc__law_turned_right kV__law_turned_right dc__law_turned_right pm__law_turned_right cd__law_turned_right ct__law_turned_right : Value}
    {ff_law : Addr} {od_law an_law : Option Addr} {sl_law : Array (Option Value)} {oc_law kV_law dc_law pm_law cd_law ct_law : Value}
    {C_Web : Addr}
    {tk_MOST_MACHINES : Tok}
    (aC_Web : PySem.W.nsIn K mainGlobals "Web" = some (some (.ref C_Web)))
    (a_is_integer : PySem.W.nsIn K mainGlobals "is_integer" = some (some (.ref ff_is_integer)))
    (l_is_integer : K.lookup ff_is_integer = some ⟨oc_is_integer, od_is_integer, .func (PySem.W.fnOf "is_integer" "is_integer" (defArgs s_is_integer) (defBody s_is_integer) (defScope s_is_integer) .none kV_is_integer dc_is_integer pm_is_integer an_is_integer cd_is_integer ct_is_integer), sl_is_integer⟩)
    (c_is_integer : PySem.W.codeIn K cd_is_integer "is_integer" = true)
    (k_is_integer : PySem.W.keepIn K (.ref ff_is_integer) = true)
    (a_is_between : PySem.W.nsIn K mainGlobals "is_between" = some (some (.ref ff_is_between)))
    (l_is_between : K.lookup ff_is_between = some ⟨oc_is_between, od_is_between, .func (PySem.W.fnOf "is_between" "is_between" (defArgs s_is_between) (defBody s_is_between) (defScope s_is_between) .none kV_is_between dc_is_between pm_is_between an_is_between cd_is_between ct_is_between), sl_is_between⟩)
    (c_is_between : PySem.W.codeIn K cd_is_between "is_between" = true)
    (k_is_between : PySem.W.keepIn K (.ref ff_is_between) = true)
    (a_is_below : PySem.W.nsIn K mainGlobals "is_below" = some (some (.ref ff_is_below)))
    (l_is_below : K.lookup ff_is_below = some ⟨oc_is_below, od_is_below, .func (PySem.W.fnOf "is_below" "is_below" (defArgs s_is_below) (defBody s_is_below) (defScope s_is_below) .none kV_is_below dc_is_below pm_is_below an_is_below cd_is_below ct_is_below), sl_is_below⟩)
    (c_is_below : PySem.W.codeIn K cd_is_below "is_below" = true)
    (k_is_below : PySem.W.keepIn K (.ref ff_is_below) = true)
    (a_is_list_or_tuple : PySem.W.nsIn K mainGlobals "is_list_or_tuple" = some (some (.ref ff_is_list_or_tuple)))
    (l_is_list_or_tuple : K.lookup ff_is_list_or_tuple = some ⟨oc_is_list_or_tuple, od_is_list_or_tuple, .func (PySem.W.fnOf "is_list_or_tuple" "is_list_or_tuple" (defArgs s_is_list_or_tuple) (defBody s_is_list_or_tuple) (defScope s_is_list_or_tuple) .none kV_is_list_or_tuple dc_is_list_or_tuple pm_is_list_or_tuple an_is_list_or_tuple cd_is_list_or_tuple ct_is_list_or_tuple), sl_is_list_or_tuple⟩)
    (c_is_list_or_tuple : PySem.W.codeIn K cd_is_list_or_tuple "is_list_or_tuple" = true)
    (k_is_list_or_tuple : PySem.W.keepIn K (.ref ff_is_list_or_tuple) = true)
    (a_is_tuple_of : PySem.W.nsIn K mainGlobals "is_tuple_of" = some (some (.ref ff_is_tuple_of)))
    (l_is_tuple_of : K.lookup ff_is_tuple_of = some ⟨oc_is_tuple_of, od_is_tuple_of, .func (PySem.W.fnOf "is_tuple_of" "is_tuple_of" (defArgs s_is_tuple_of) (defBody s_is_tuple_of) (defScope s_is_tuple_of) .none kV_is_tuple_of dc_is_tuple_of pm_is_tuple_of an_is_tuple_of cd_is_tuple_of ct_is_tuple_of), sl_is_tuple_of⟩)
    (c_is_tuple_of : PySem.W.codeIn K cd_is_tuple_of "is_tuple_of" = true)
    (k_is_tuple_of : PySem.W.keepIn K (.ref ff_is_tuple_of) = true)
    (a_are_below : PySem.W.nsIn K mainGlobals "are_below" = some (some (.ref ff_are_below)))
    (l_are_below : K.lookup ff_are_below = some ⟨oc_are_below, od_are_below, .func (PySem.W.fnOf "are_below" "are_below" (defArgs s_are_below) (defBody s_are_below) (defScope s_are_below) .none kV_are_below dc_are_below pm_are_below an_are_below cd_are_below ct_are_below), sl_are_below⟩)
    (c_are_below : PySem.W.codeIn K cd_are_below "are_below" = true)
    (k_are_below : PySem.W.keepIn K (.ref ff_are_below) = true)
    (a_is_unlike_pair : PySem.W.nsIn K mainGlobals "is_unlike_pair" = some (some (.ref ff_is_unlike_pair)))
    (l_is_unlike_pair : K.lookup ff_is_unlike_pair = some ⟨oc_is_unlike_pair, od_is_unlike_pair, .func (PySem.W.fnOf "is_unlike_pair" "is_unlike_pair" (defArgs s_is_unlike_pair) (defBody s_is_unlike_pair) (defScope s_is_unlike_pair) .none kV_is_unlike_pair dc_is_unlike_pair pm_is_unlike_pair an_is_unlike_pair cd_is_unlike_pair ct_is_unlike_pair), sl_is_unlike_pair⟩)
    (c_is_unlike_pair : PySem.W.codeIn K cd_is_unlike_pair "is_unlike_pair" = true)
    (k_is_unlike_pair : PySem.W.keepIn K (.ref ff_is_unlike_pair) = true)
    (a_Web_init : PySem.W.findIn K (.ref C_Web) "__init__" = some (some (.ref ff_Web_init)))
    (i_Web_init : PySem.W.isFn K (.ref ff_Web_init) = true)
    (l_Web_init : K.lookup ff_Web_init = some ⟨oc_Web_init, od_Web_init, .func (PySem.W.fnOf "__init__" "Web.__init__" (defArgs s_Web_init) (defBody s_Web_init) (defScope s_Web_init) .none kV_Web_init dc_Web_init pm_Web_init an_Web_init cd_Web_init ct_Web_init), sl_Web_init⟩)
    (c_Web_init : PySem.W.codeIn K cd_Web_init "Web.__init__" = true)
    (k_Web_init : PySem.W.keepIn K (.ref ff_Web_init) = true)
    (a_Web_eq : PySem.W.findIn K (.ref C_Web) "__eq__" = some (some (.ref ff_Web_eq)))
    (i_Web_eq : PySem.W.isFn K (.ref ff_Web_eq) = true)
    (l_Web_eq : K.lookup ff_Web_eq = some ⟨oc_Web_eq, od_Web_eq, .func (PySem.W.fnOf "__eq__" "Web.__eq__" (defArgs s_Web_eq) (defBody s_Web_eq) (defScope s_Web_eq) .none kV_Web_eq dc_Web_eq pm_Web_eq an_Web_eq cd_Web_eq ct_Web_eq), sl_Web_eq⟩)
    (c_Web_eq : PySem.W.codeIn K cd_Web_eq "Web.__eq__" = true)
    (k_Web_eq : PySem.W.keepIn K (.ref ff_Web_eq) = true)
    (a_first_wrong_wire : PySem.W.nsIn K mainGlobals "first_wrong_wire" = some (some (.ref ff_first_wrong_wire)))
    (l_first_wrong_wire : K.lookup ff_first_wrong_wire = some ⟨oc_first_wrong_wire, od_first_wrong_wire, .func (PySem.W.fnOf "first_wrong_wire" "first_wrong_wire" (defArgs s_first_wrong_wire) (defBody s_first_wrong_wire) (defScope s_first_wrong_wire) .none kV_first_wrong_wire dc_first_wrong_wire pm_first_wrong_wire an_first_wrong_wire cd_first_wrong_wire ct_first_wrong_wire), sl_first_wrong_wire⟩)
    (c_first_wrong_wire : PySem.W.codeIn K cd_first_wrong_wire "first_wrong_wire" = true)
    (k_first_wrong_wire : PySem.W.keepIn K (.ref ff_first_wrong_wire) = true)
    (a_web_of_any_size : PySem.W.nsIn K mainGlobals "web_of_any_size" = some (some (.ref ff_web_of_any_size)))
    (l_web_of_any_size : K.lookup ff_web_of_any_size = some ⟨oc_web_of_any_size, od_web_of_any_size, .func (PySem.W.fnOf "web_of_any_size" "web_of_any_size" (defArgs s_web_of_any_size) (defBody s_web_of_any_size) (defScope s_web_of_any_size) .none kV_web_of_any_size dc_web_of_any_size pm_web_of_any_size an_web_of_any_size cd_web_of_any_size ct_web_of_any_size), sl_web_of_any_size⟩)
    (c_web_of_any_size : PySem.W.codeIn K cd_web_of_any_size "web_of_any_size" = true)
    (k_web_of_any_size : PySem.W.keepIn K (.ref ff_web_of_any_size) = true)
    (a_there_and_back : PySem.W.nsIn K mainGlobals "there_and_back" = some (some (.ref ff_there_and_back)))
    (l_there_and_back : K.lookup ff_there_and_back = some ⟨oc_there_and_back, od_there_and_back, .func (PySem.W.fnOf "there_and_back" "there_and_back" (defArgs s_there_and_back) (defBody s_there_and_back) (defScope s_there_and_back) .none kV_there_and_back dc_there_and_back pm_there_and_back an_there_and_back cd_there_and_back ct_there_and_back), sl_there_and_back⟩)
    (c_there_and_back : PySem.W.codeIn K cd_there_and_back "there_and_back" = true)
    (k_there_and_back : PySem.W.keepIn K (.ref ff_there_and_back) = true)
    (a_all_but : PySem.W.nsIn K mainGlobals "all_but" = some (some (.ref ff_all_but)))
    (l_all_but : K.lookup ff_all_but = some ⟨oc_all_but, od_all_but, .func (PySem.W.fnOf "all_but" "all_but" (defArgs s_all_but) (defBody s_all_but) (defScope s_all_but) .none kV_all_but dc_all_but pm_all_but an_all_but cd_all_but ct_all_but), sl_all_but⟩)
    (c_all_but : PySem.W.codeIn K cd_all_but "all_but" = true)
    (k_all_but : PySem.W.keepIn K (.ref ff_all_but) = true)
    (a_check_number : PySem.W.nsIn K mainGlobals "check_number" = some (some (.ref ff_check_number)))
    (l_check_number : K.lookup ff_check_number = some ⟨oc_check_number, od_check_number, .func (PySem.W.fnOf "check_number" "check_number" (defArgs s_check_number) (defBody s_check_number) (defScope s_check_number) .none kV_check_number dc_check_number pm_check_number an_check_number cd_check_number ct_check_number), sl_check_number⟩)
    (c_check_number : PySem.W.codeIn K cd_check_number "check_number" = true)
    (k_check_number : PySem.W.keepIn K (.ref ff_check_number) = true)
    (a_are_pairs : PySem.W.nsIn K mainGlobals "are_pairs" = some (some (.ref ff_are_pairs)))
    (l_are_pairs : K.lookup ff_are_pairs = some ⟨oc_are_pairs, od_are_pairs, .func (PySem.W.fnOf "are_pairs" "are_pairs" (defArgs s_are_pairs) (defBody s_are_pairs) (defScope s_are_pairs) .none kV_are_pairs dc_are_pairs pm_are_pairs an_are_pairs cd_are_pairs ct_are_pairs), sl_are_pairs⟩)
    (c_are_pairs : PySem.W.codeIn K cd_are_pairs "are_pairs" = true)
    (k_are_pairs : PySem.W.keepIn K (.ref ff_are_pairs) = true)
    (a_both_ways : PySem.W.nsIn K mainGlobals "both_ways" = some (some (.ref ff_both_ways)))
    (l_both_ways : K.lookup ff_both_ways = some ⟨oc_both_ways, od_both_ways, .func (PySem.W.fnOf "both_ways" "both_ways" (defArgs s_both_ways) (defBody s_both_ways) (defScope s_both_ways) .none kV_both_ways dc_both_ways pm_both_ways an_both_ways cd_both_ways ct_both_ways), sl_both_ways⟩)
    (c_both_ways : PySem.W.codeIn K cd_both_ways "both_ways" = true)
    (k_both_ways : PySem.W.keepIn K (.ref ff_both_ways) = true)
    (a_full : PySem.W.nsIn K mainGlobals "full" = some (some (.ref ff_full)))
    (l_full : K.lookup ff_full = some ⟨oc_full, od_full, .func (PySem.W.fnOf "full" "full" (defArgs s_full) (defBody s_full) (defScope s_full) .none kV_full dc_full pm_full an_full cd_full ct_full), sl_full⟩)
    (c_full : PySem.W.codeIn K cd_full "full" = true)
    (k_full : PySem.W.keepIn K (.ref ff_full) = true)
    (a_web_of_all_wires : PySem.W.nsIn K mainGlobals "web_of_all_wires" = some (some (.ref ff_web_of_all_wires)))
    (l_web_of_all_wires : K.lookup ff_web_of_all_wires = some ⟨oc_web_of_all_wires, od_web_of_all_wires, .func (PySem.W.fnOf "web_of_all_wires" "web_of_all_wires" (defArgs s_web_of_all_wires) (defBody s_web_of_all_wires) (defScope s_web_of_all_wires) .none kV_web_of_all_wires dc_web_of_all_wires pm_web_of_all_wires an_web_of_all_wires cd_web_of_all_wires ct_web_of_all_wires), sl_web_of_all_wires⟩)
    (c_web_of_all_wires : PySem.W.codeIn K cd_web_of_all_wires "web_of_all_wires" = true)
    (k_web_of_all_wires : PySem.W.keepIn K (.ref ff_web_of_all_wires) = true)
    (a_hub : PySem.W.nsIn K mainGlobals "hub" = some (some (.ref ff_hub)))
    (l_hub : K.lookup ff_hub = some ⟨oc_hub, od_hub, .func (PySem.W.fnOf "hub" "hub" (defArgs s_hub) (defBody s_hub) (defScope s_hub) .none kV_hub dc_hub pm_hub an_hub cd_hub ct_hub), sl_hub⟩)
    (c_hub : PySem.W.codeIn K cd_hub "hub" = true)
    (k_hub : PySem.W.keepIn K (.ref ff_hub) = true)
    (a_line : PySem.W.nsIn K mainGlobals "line" = some (some (.ref ff_line)))
    (l_line : K.lookup ff_line = some ⟨oc_line, od_line, .func (PySem.W.fnOf "line" "line" (defArgs s_line) (defBody s_line) (defScope s_line) .none kV_line dc_line pm_line an_line cd_line ct_line), sl_line⟩)
    (c_line : PySem.W.codeIn K cd_line "line" = true)
    (k_line : PySem.W.keepIn K (.ref ff_line) = true)
    (a_ring : PySem.W.nsIn K mainGlobals "ring" = some (some (.ref ff_ring)))
    (l_ring : K.lookup ff_ring = some ⟨oc_ring, od_ring, .func (PySem.W.fnOf "ring" "ring" (defArgs s_ring) (defBody s_ring) (defScope s_ring) .none kV_ring dc_ring pm_ring an_ring cd_ring ct_ring), sl_ring⟩)
    (c_ring : PySem.W.codeIn K cd_ring "ring" = true)
    (k_ring : PySem.W.keepIn K (.ref ff_ring) = true)
    (a_neighbours : PySem.W.nsIn K mainGlobals "neighbours" = some (some (.ref ff_neighbours)))
    (l_neighbours : K.lookup ff_neighbours = some ⟨oc_neighbours, od_neighbours, .func (PySem.W.fnOf "neighbours" "neighbours" (defArgs s_neighbours) (defBody s_neighbours) (defScope s_neighbours) .none kV_neighbours dc_neighbours pm_neighbours an_neighbours cd_neighbours ct_neighbours), sl_neighbours⟩)
    (c_neighbours : PySem.W.codeIn K cd_neighbours "neighbours" = true)
    (k_neighbours : PySem.W.keepIn K (.ref ff_neighbours) = true)
    (a_renamed : PySem.W.nsIn K mainGlobals "renamed" = some (some (.ref ff_renamed)))
    (l_renamed : K.lookup ff_renamed = some ⟨oc_renamed, od_renamed, .func (PySem.W.fnOf "renamed" "renamed" (defArgs s_renamed) (defBody s_renamed) (defScope s_renamed) .none kV_renamed dc_renamed pm_renamed an_renamed cd_renamed ct_renamed), sl_renamed⟩)
    (c_renamed : PySem.W.codeIn K cd_renamed "renamed" = true)
    (k_renamed : PySem.W.keepIn K (.ref ff_renamed) = true)
    (a_is_order : PySem.W.nsIn K mainGlobals "is_order" = some (some (.ref ff_is_order)))
    (l_is_order : K.lookup ff_is_order = some ⟨oc_is_order, od_is_order, .func (PySem.W.fnOf "is_order" "is_order" (defArgs s_is_order) (defBody s_is_order) (defScope s_is_order) .none kV_is_order dc_is_order pm_is_order an_is_order cd_is_order ct_is_order), sl_is_order⟩)
    (c_is_order : PySem.W.codeIn K cd_is_order "is_order" = true)
    (k_is_order : PySem.W.keepIn K (.ref ff_is_order) = true)
    (a_with_wire : PySem.W.nsIn K mainGlobals "with_wire" = some (some (.ref ff_with_wire)))
    (l_with_wire : K.lookup ff_with_wire = some ⟨oc_with_wire, od_with_wire, .func (PySem.W.fnOf "with_wire" "with_wire" (defArgs s_with_wire) (defBody s_with_wire) (defScope s_with_wire) .none kV_with_wire dc_with_wire pm_with_wire an_with_wire cd_with_wire ct_with_wire), sl_with_wire⟩)
    (c_with_wire : PySem.W.codeIn K cd_with_wire "with_wire" = true)
    (k_with_wire : PySem.W.keepIn K (.ref ff_with_wire) = true)
    (a_without_wire : PySem.W.nsIn K mainGlobals "without_wire" = some (some (.ref ff_without_wire)))
    (l_without_wire : K.lookup ff_without_wire = some ⟨oc_without_wire, od_without_wire, .func (PySem.W.fnOf "without_wire" "without_wire" (defArgs s_without_wire) (defBody s_without_wire) (defScope s_without_wire) .none kV_without_wire dc_without_wire pm_without_wire an_without_wire cd_without_wire ct_without_wire), sl_without_wire⟩)
    (c_without_wire : PySem.W.codeIn K cd_without_wire "without_wire" = true)
    (k_without_wire : PySem.W.keepIn K (.ref ff_without_wire) = true)
    (a__law_hand : PySem.W.nsIn K mainGlobals "_law_hand" = some (some (.ref ff__law_hand)))
    (l__law_hand : K.lookup ff__law_hand = some ⟨oc__law_hand, od__law_hand, .func (PySem.W.fnOf "_law_hand" "_law_hand" (defArgs s__law_hand) (defBody s__law_hand) (defScope s__law_hand) .none kV__law_hand dc__law_hand pm__law_hand an__law_hand cd__law_hand ct__law_hand), sl__law_hand⟩)
    (c__law_hand : PySem.W.codeIn K cd__law_hand "_law_hand" = true)
    (k__law_hand : PySem.W.keepIn K (.ref ff__law_hand) = true)
    (a__law_draw : PySem.W.nsIn K mainGlobals "_law_draw" = some (some (.ref ff__law_draw)))
    (l__law_draw : K.lookup ff__law_draw = some ⟨oc__law_draw, od__law_draw, .func (PySem.W.fnOf "_law_draw" "_law_draw" (defArgs s__law_draw) (defBody s__law_draw) (defScope s__law_draw) .none kV__law_draw dc__law_draw pm__law_draw an__law_draw cd__law_draw ct__law_draw), sl__law_draw⟩)
    (c__law_draw : PySem.W.codeIn K cd__law_draw "_law_draw" = true)
    (k__law_draw : PySem.W.keepIn K (.ref ff__law_draw) = true)
    (a__law_is : PySem.W.nsIn K mainGlobals "_law_is" = some (some (.ref ff__law_is)))
    (l__law_is : K.lookup ff__law_is = some ⟨oc__law_is, od__law_is, .func (PySem.W.fnOf "_law_is" "_law_is" (defArgs s__law_is) (defBody s__law_is) (defScope s__law_is) .none kV__law_is dc__law_is pm__law_is an__law_is cd__law_is ct__law_is), sl__law_is⟩)
    (c__law_is : PySem.W.codeIn K cd__law_is "_law_is" = true)
    (k__law_is : PySem.W.keepIn K (.ref ff__law_is) = true)
    (a__law_web : PySem.W.nsIn K mainGlobals "_law_web" = some (some (.ref ff__law_web)))
    (l__law_web : K.lookup ff__law_web = some ⟨oc__law_web, od__law_web, .func (PySem.W.fnOf "_law_web" "_law_web" (defArgs s__law_web) (defBody s__law_web) (defScope s__law_web) .none kV__law_web dc__law_web pm__law_web an__law_web cd__law_web ct__law_web), sl__law_web⟩)
    (c__law_web : PySem.W.codeIn K cd__law_web "_law_web" = true)
    (k__law_web : PySem.W.keepIn K (.ref ff__law_web) = true)
    (a__law_all_wires : PySem.W.nsIn K mainGlobals "_law_all_wires" = some (some (.ref ff__law_all_wires)))
    (l__law_all_wires : K.lookup ff__law_all_wires = some ⟨oc__law_all_wires, od__law_all_wires, .func (PySem.W.fnOf "_law_all_wires" "_law_all_wires" (defArgs s__law_all_wires) (defBody s__law_all_wires) (defScope s__law_all_wires) .none kV__law_all_wires dc__law_all_wires pm__law_all_wires an__law_all_wires cd__law_all_wires ct__law_all_wires), sl__law_all_wires⟩)
    (c__law_all_wires : PySem.W.codeIn K cd__law_all_wires "_law_all_wires" = true)
    (k__law_all_wires : PySem.W.keepIn K (.ref ff__law_all_wires) = true)
    (a__law_is_web : PySem.W.nsIn K mainGlobals "_law_is_web" = some (some (.ref ff__law_is_web)))
    (l__law_is_web : K.lookup ff__law_is_web = some ⟨oc__law_is_web, od__law_is_web, .func (PySem.W.fnOf "_law_is_web" "_law_is_web" (defArgs s__law_is_web) (defBody s__law_is_web) (defScope s__law_is_web) .none kV__law_is_web dc__law_is_web pm__law_is_web an__law_is_web cd__law_is_web ct__law_is_web), sl__law_is_web⟩)
    (c__law_is_web : PySem.W.codeIn K cd__law_is_web "_law_is_web" = true)
    (k__law_is_web : PySem.W.keepIn K (.ref ff__law_is_web) = true)
    (a__law_doubled : PySem.W.nsIn K mainGlobals "_law_doubled" = some (some (.ref ff__law_doubled)))
    (l__law_doubled : K.lookup ff__law_doubled = some ⟨oc__law_doubled, od__law_doubled, .func (PySem.W.fnOf "_law_doubled" "_law_doubled" (defArgs s__law_doubled) (defBody s__law_doubled) (defScope s__law_doubled) .none kV__law_doubled dc__law_doubled pm__law_doubled an__law_doubled cd__law_doubled ct__law_doubled), sl__law_doubled⟩)
    (c__law_doubled : PySem.W.codeIn K cd__law_doubled "_law_doubled" = true)
    (k__law_doubled : PySem.W.keepIn K (.ref ff__law_doubled) = true)
    (a__law_order : PySem.W.nsIn K mainGlobals "_law_order" = some (some (.ref ff__law_order)))
    (l__law_order : K.lookup ff__law_order = some ⟨oc__law_order, od__law_order, .func (PySem.W.fnOf "_law_order" "_law_order" (defArgs s__law_order) (defBody s__law_order) (defScope s__law_order) .none kV__law_order dc__law_order pm__law_order an__law_order cd__law_order ct__law_order), sl__law_order⟩)
    (c__law_order : PySem.W.codeIn K cd__law_order "_law_order" = true)
    (k__law_order : PySem.W.keepIn K (.ref ff__law_order) = true)
    (a__law_turned_right : PySem.W.nsIn K mainGlobals "_law_turned_right" = some (some (.ref ff__law_turned_right)))
    (l__law_turned_right : K.lookup ff__law_turned_right = some ⟨oc__law_turned_right, od__law_turned_right, .func (PySem.W.fnOf "_law_turned_right" "_law_turned_right" (defArgs s__law_turned_right) (defBody s__law_turned_right) (defScope s__law_turned_right) .none kV__law_turned_right dc__law_turned_right pm__law_turned_right an__law_turned_right cd__law_turned_right ct__law_turned_right), sl__law_turned_right⟩)
    (c__law_turned_right : PySem.W.codeIn K cd__law_turned_right "_law_turned_right" = true)
    (k__law_turned_right : PySem.W.keepIn K (.ref ff__law_turned_right) = true)
    (a_law : PySem.W.nsIn K mainGlobals "law" = some (some (.ref ff_law)))
    (l_law : K.lookup ff_law = some ⟨oc_law, od_law, .func (PySem.W.fnOf "law" "law" (defArgs s_law) (defBody s_law) (defScope s_law) .none kV_law dc_law pm_law an_law cd_law ct_law), sl_law⟩)
    (c_law : PySem.W.codeIn K cd_law "law" = true)
    (k_law : PySem.W.keepIn K (.ref ff_law) = true)
    (pg_Web : PySem.W.plainGet K C_Web Str.empty = true)
    (hd_Web : PySem.W.hasDictIn K C_Web = true)
    (po_Web : PySem.W.plainOver K C_Web = true)
    (sa_Web : PySem.W.findIn K (.ref C_Web) "__setattr__" = some (some (.builtin "object.__setattr__")))
    (mk_Web : PySem.W.makesIn K C_Web = true)
    (kc_Web : PySem.W.keepIn K (.ref C_Web) = true)
    (ha_Web : PySem.W.findIn K (.ref C_Web) "__class__" = some (some (.builtin "object.__class__")))
    (hn_Web : PySem.W.specialIn K (.builtin "object.__class__") "__get__" = some (some (.builtin "getset_descriptor.__get__")))
    (ht_Web : PySem.W.takesIn K (.builtin "object.__class__") = some true)
    (hm_Web : PySem.W.mroIn K C_Web (.type "object") = some true)
    (hne_Web : PySem.W.findIn K (.ref C_Web) "__ne__" = some (some (.builtin "object.__ne__")))
    (na_Web_machines : PySem.W.findIn K (.ref C_Web) "machines" = some none)
    (na_Web_wires : PySem.W.findIn K (.ref C_Web) "wires" = some none)
    (co_MOST_MACHINES : PySem.W.nsIn K mainGlobals "MOST_MACHINES" = some (some (.int 7 tk_MOST_MACHINES)))
    (z_isinstance : PySem.W.nsIn K mainGlobals "isinstance" = some none)
    (z_int : PySem.W.nsIn K mainGlobals "int" = some none)
    (z_bool : PySem.W.nsIn K mainGlobals "bool" = some none)
    (z_list : PySem.W.nsIn K mainGlobals "list" = some none)
    (z_tuple : PySem.W.nsIn K mainGlobals "tuple" = some none)
    (z_len : PySem.W.nsIn K mainGlobals "len" = some none)
    (z_all : PySem.W.nsIn K mainGlobals "all" = some none)
    (z_enumerate : PySem.W.nsIn K mainGlobals "enumerate" = some none)
    (z_sorted : PySem.W.nsIn K mainGlobals "sorted" = some none)
    (z_set : PySem.W.nsIn K mainGlobals "set" = some none)
    (z_range : PySem.W.nsIn K mainGlobals "range" = some none)
    (z_zip : PySem.W.nsIn K mainGlobals "zip" = some none)
    (z_abs : PySem.W.nsIn K mainGlobals "abs" = some none)
    (z_min : PySem.W.nsIn K mainGlobals "min" = some none)
    : ∃ fd : FuncData, (∀ (s : Shared) (v : Value), BindsTo s fd ⟨[v], []⟩ [("_law_script", v)]) ∧ ∀ base : Heap, K.In base → base.Ns mainGlobals mg → FnOk l.prog w K mg base CX0 12 fa fd ["_law_script"] (spLaw K) := by
  have e := hfa.symm.trans (PySem.W.mg_of X G a_law)
  cases e
  have F_is_integer := fun_mk (st := s_is_integer) l_is_integer c_is_integer k_is_integer
  have b_is_integer := F_is_integer.binds (ps := P_is_integer) fun _ _ _ _ _ _ us hl => match us, hl with | [_], _ => rfl
  have F_is_between := fun_mk (st := s_is_between) l_is_between c_is_between k_is_between
  have b_is_between := F_is_between.binds (ps := P_is_between) fun _ _ _ _ _ _ us hl => match us, hl with | [_, _, _], _ => rfl
  have F_is_below := fun_mk (st := s_is_below) l_is_below c_is_below k_is_below
  have b_is_below := F_is_below.binds (ps := P_is_below) fun _ _ _ _ _ _ us hl => match us, hl with | [_, _], _ => rfl
  have F_is_list_or_tuple := fun_mk (st := s_is_list_or_tuple) l_is_list_or_tuple c_is_list_or_tuple k_is_list_or_tuple
  have b_is_list_or_tuple := F_is_list_or_tuple.binds (ps := P_is_list_or_tuple) fun _ _ _ _ _ _ us hl => match us, hl with | [_], _ => rfl
  have F_is_tuple_of := fun_mk (st := s_is_tuple_of) l_is_tuple_of c_is_tuple_of k_is_tuple_of
  have b_is_tuple_of := F_is_tuple_of.binds (ps := P_is_tuple_of) fun _ _ _ _ _ _ us hl => match us, hl with | [_, _, _], _ => rfl
  have F_are_below := fun_mk (st := s_are_below) l_are_below c_are_below k_are_below
  have b_are_below := F_are_below.binds (ps := P_are_below) fun _ _ _ _ _ _ us hl => match us, hl with | [_, _], _ => rfl
  have F_is_unlike_pair := fun_mk (st := s_is_unlike_pair) l_is_unlike_pair c_is_unlike_pair k_is_unlike_pair
  have b_is_unlike_pair := F_is_unlike_pair.binds (ps := P_is_unlike_pair) fun _ _ _ _ _ _ us hl => match us, hl with | [_, _], _ => rfl
  have F_Web_init := fun_mk (st := s_Web_init) l_Web_init c_Web_init k_Web_init
  have b_Web_init := F_Web_init.binds (ps := P_Web_init) fun _ _ _ _ _ _ us hl => match us, hl with | [_, _, _], _ => rfl
  have F_Web_eq := fun_mk (st := s_Web_eq) l_Web_eq c_Web_eq k_Web_eq
  have b_Web_eq := F_Web_eq.binds (ps := P_Web_eq) fun _ _ _ _ _ _ us hl => match us, hl with | [_, _], _ => rfl
  have F_first_wrong_wire := fun_mk (st := s_first_wrong_wire) l_first_wrong_wire c_first_wrong_wire k_first_wrong_wire
  have b_first_wrong_wire := F_first_wrong_wire.binds (ps := P_first_wrong_wire) fun _ _ _ _ _ _ us hl => match us, hl with | [_, _], _ => rfl
  have F_web_of_any_size := fun_mk (st := s_web_of_any_size) l_web_of_any_size c_web_of_any_size k_web_of_any_size
  have b_web_of_any_size := F_web_of_any_size.binds (ps := P_web_of_any_size) fun _ _ _ _ _ _ us hl => match us, hl with | [_, _], _ => rfl
  have F_there_and_back := fun_mk (st := s_there_and_back) l_there_and_back c_there_and_back k_there_and_back
  have b_there_and_back := F_there_and_back.binds (ps := P_there_and_back) fun _ _ _ _ _ _ us hl => match us, hl with | [_], _ => rfl
  have F_all_but := fun_mk (st := s_all_but) l_all_but c_all_but k_all_but
  have b_all_but := F_all_but.binds (ps := P_all_but) fun _ _ _ _ _ _ us hl => match us, hl with | [_, _], _ => rfl
  have F_check_number := fun_mk (st := s_check_number) l_check_number c_check_number k_check_number
  have b_check_number := F_check_number.binds (ps := P_check_number) fun _ _ _ _ _ _ us hl => match us, hl with | [_, _], _ => rfl
  have F_are_pairs := fun_mk (st := s_are_pairs) l_are_pairs c_are_pairs k_are_pairs
  have b_are_pairs := F_are_pairs.binds (ps := P_are_pairs) fun _ _ _ _ _ _ us hl => match us, hl with | [_, _], _ => rfl
  have F_both_ways := fun_mk (st := s_both_ways) l_both_ways c_both_ways k_both_ways
  have b_both_ways := F_both_ways.binds (ps := P_both_ways) fun _ _ _ _ _ _ us hl => match us, hl with | [_, _], _ => rfl
  have F_full := fun_mk (st := s_full) l_full c_full k_full
  have b_full := F_full.binds (ps := P_full) fun _ _ _ _ _ _ us hl => match us, hl with | [_], _ => rfl
  have F_web_of_all_wires := fun_mk (st := s_web_of_all_wires) l_web_of_all_wires c_web_of_all_wires k_web_of_all_wires
  have b_web_of_all_wires := F_web_of_all_wires.binds (ps := P_web_of_all_wires) fun _ _ _ _ _ _ us hl => match us, hl with | [_], _ => rfl
  have F_hub := fun_mk (st := s_hub) l_hub c_hub k_hub
  have b_hub := F_hub.binds (ps := P_hub) fun _ _ _ _ _ _ us hl => match us, hl with | [_], _ => rfl
  have F_line := fun_mk (st := s_line) l_line c_line k_line
  have b_line := F_line.binds (ps := P_line) fun _ _ _ _ _ _ us hl => match us, hl with | [_], _ => rfl
  have F_ring := fun_mk (st := s_ring) l_ring c_ring k_ring
  have b_ring := F_ring.binds (ps := P_ring) fun _ _ _ _ _ _ us hl => match us, hl with | [_], _ => rfl
  have F_neighbours := fun_mk (st := s_neighbours) l_neighbours c_neighbours k_neighbours
  have b_neighbours := F_neighbours.binds (ps := P_neighbours) fun _ _ _ _ _ _ us hl => match us, hl with | [_], _ => rfl
  have F_renamed := fun_mk (st := s_renamed) l_renamed c_renamed k_renamed
  have b_renamed := F_renamed.binds (ps := P_renamed) fun _ _ _ _ _ _ us hl => match us, hl with | [_, _], _ => rfl
  have F_is_order := fun_mk (st := s_is_order) l_is_order c_is_order k_is_order
  have b_is_order := F_is_order.binds (ps := P_is_order) fun _ _ _ _ _ _ us hl => match us, hl with | [_, _], _ => rfl
  have F_with_wire := fun_mk (st := s_with_wire) l_with_wire c_with_wire k_with_wire
  have b_with_wire := F_with_wire.binds (ps := P_with_wire) fun _ _ _ _ _ _ us hl => match us, hl with | [_, _], _ => rfl
  have F_without_wire := fun_mk (st := s_without_wire) l_without_wire c_without_wire k_without_wire
  have b_without_wire := F_without_wire.binds (ps := P_without_wire) fun _ _ _ _ _ _ us hl => match us, hl with | [_, _], _ => rfl
  have F__law_hand := fun_mk (st := s__law_hand) l__law_hand c__law_hand k__law_hand
  have b__law_hand := F__law_hand.binds (ps := P__law_hand) fun _ _ _ _ _ _ us hl => match us, hl with | [_], _ => rfl
  have F__law_draw := fun_mk (st := s__law_draw) l__law_draw c__law_draw k__law_draw
  have b__law_draw := F__law_draw.binds (ps := P__law_draw) fun _ _ _ _ _ _ us hl => match us, hl with | [_, _], _ => rfl
  have F__law_is := fun_mk (st := s__law_is) l__law_is c__law_is k__law_is
  have b__law_is := F__law_is.binds (ps := P__law_is) fun _ _ _ _ _ _ us hl => match us, hl with | [_, _], _ => rfl
  have F__law_web := fun_mk (st := s__law_web) l__law_web c__law_web k__law_web
  have b__law_web := F__law_web.binds (ps := P__law_web) fun _ _ _ _ _ _ us hl => match us, hl with | [_, _], _ => rfl
  have F__law_all_wires := fun_mk (st := s__law_all_wires) l__law_all_wires c__law_all_wires k__law_all_wires
  have b__law_all_wires := F__law_all_wires.binds (ps := P__law_all_wires) fun _ _ _ _ _ _ us hl => match us, hl with | [_], _ => rfl
  have F__law_is_web := fun_mk (st := s__law_is_web) l__law_is_web c__law_is_web k__law_is_web
  have b__law_is_web := F__law_is_web.binds (ps := P__law_is_web) fun _ _ _ _ _ _ us hl => match us, hl with | [_, _, _], _ => rfl
  have F__law_doubled := fun_mk (st := s__law_doubled) l__law_doubled c__law_doubled k__law_doubled
  have b__law_doubled := F__law_doubled.binds (ps := P__law_doubled) fun _ _ _ _ _ _ us hl => match us, hl with | [_], _ => rfl
  have F__law_order := fun_mk (st := s__law_order) l__law_order c__law_order k__law_order
  have b__law_order := F__law_order.binds (ps := P__law_order) fun _ _ _ _ _ _ us hl => match us, hl with | [_, _], _ => rfl
  have F__law_turned_right := fun_mk (st := s__law_turned_right) l__law_turned_right c__law_turned_right k__law_turned_right
  have b__law_turned_right := F__law_turned_right.binds (ps := P__law_turned_right) fun _ _ _ _ _ _ us hl => match us, hl with | [_, _, _], _ => rfl
  have F_law := fun_mk (st := s_law) l_law c_law k_law
  have b_law := F_law.binds (ps := P_law) fun _ _ _ _ _ _ us hl => match us, hl with | [_], _ => rfl
  have T : Txt K mg ⟨ff_is_integer, _, ff_is_between, _, ff_is_below, _, ff_is_list_or_tuple, _, ff_is_tuple_of, _, ff_are_below, _, ff_is_unlike_pair, _, ff_Web_init, _, ff_Web_eq, _, ff_first_wrong_wire, _, ff_web_of_any_size, _, ff_there_and_back, _, ff_all_but, _, ff_check_number, _, ff_are_pairs, _, ff_both_ways, _, ff_full, _, ff_web_of_all_wires, _, ff_hub, _, ff_line, _, ff_ring, _, ff_neighbours, _, ff_renamed, _, ff_is_order, _, ff_with_wire, _, ff_without_wire, _, ff__law_hand, _, ff__law_draw, _, ff__law_is, _, ff__law_web, _, ff__law_all_wires, _, ff__law_is_web, _, ff__law_doubled, _, ff__law_order, _, ff__law_turned_right, _, fa, _, C_Web, tk_MOST_MACHINES⟩ := ⟨F_is_integer,
    b_is_integer,
    PySem.W.mg_of X G a_is_integer,
    F_is_between,
    b_is_between,
    PySem.W.mg_of X G a_is_between,
    F_is_below,
    b_is_below,
    PySem.W.mg_of X G a_is_below,
    F_is_list_or_tuple,
    b_is_list_or_tuple,
    PySem.W.mg_of X G a_is_list_or_tuple,
    F_is_tuple_of,
    b_is_tuple_of,
    PySem.W.mg_of X G a_is_tuple_of,
    F_are_below,
    b_are_below,
    PySem.W.mg_of X G a_are_below,
    F_is_unlike_pair,
    b_is_unlike_pair,
    PySem.W.mg_of X G a_is_unlike_pair,
    F_Web_init,
    b_Web_init,
    F_Web_eq,
    b_Web_eq,
    F_first_wrong_wire,
    b_first_wrong_wire,
    PySem.W.mg_of X G a_first_wrong_wire,
    F_web_of_any_size,
    b_web_of_any_size,
    PySem.W.mg_of X G a_web_of_any_size,
    F_there_and_back,
    b_there_and_back,
    PySem.W.mg_of X G a_there_and_back,
    F_all_but,
    b_all_but,
    PySem.W.mg_of X G a_all_but,
    F_check_number,
    b_check_number,
    PySem.W.mg_of X G a_check_number,
    F_are_pairs,
    b_are_pairs,
    PySem.W.mg_of X G a_are_pairs,
    F_both_ways,
    b_both_ways,
    PySem.W.mg_of X G a_both_ways,
    F_full,
    b_full,
    PySem.W.mg_of X G a_full,
    F_web_of_all_wires,
    b_web_of_all_wires,
    PySem.W.mg_of X G a_web_of_all_wires,
    F_hub,
    b_hub,
    PySem.W.mg_of X G a_hub,
    F_line,
    b_line,
    PySem.W.mg_of X G a_line,
    F_ring,
    b_ring,
    PySem.W.mg_of X G a_ring,
    F_neighbours,
    b_neighbours,
    PySem.W.mg_of X G a_neighbours,
    F_renamed,
    b_renamed,
    PySem.W.mg_of X G a_renamed,
    F_is_order,
    b_is_order,
    PySem.W.mg_of X G a_is_order,
    F_with_wire,
    b_with_wire,
    PySem.W.mg_of X G a_with_wire,
    F_without_wire,
    b_without_wire,
    PySem.W.mg_of X G a_without_wire,
    F__law_hand,
    b__law_hand,
    PySem.W.mg_of X G a__law_hand,
    F__law_draw,
    b__law_draw,
    PySem.W.mg_of X G a__law_draw,
    F__law_is,
    b__law_is,
    PySem.W.mg_of X G a__law_is,
    F__law_web,
    b__law_web,
    PySem.W.mg_of X G a__law_web,
    F__law_all_wires,
    b__law_all_wires,
    PySem.W.mg_of X G a__law_all_wires,
    F__law_is_web,
    b__law_is_web,
    PySem.W.mg_of X G a__law_is_web,
    F__law_doubled,
    b__law_doubled,
    PySem.W.mg_of X G a__law_doubled,
    F__law_order,
    b__law_order,
    PySem.W.mg_of X G a__law_order,
    F__law_turned_right,
    b__law_turned_right,
    PySem.W.mg_of X G a__law_turned_right,
    F_law,
    b_law,
    PySem.W.mg_of X G a_law,
    PySem.W.mg_of X G aC_Web,
    ⟨pg_Web, hd_Web, po_Web, sa_Web⟩,
    ⟨mk_Web, a_Web_init, i_Web_init, kc_Web⟩,
    ⟨⟨pg_Web, hd_Web, po_Web, sa_Web⟩, ha_Web, hn_Web, ht_Web, hm_Web, (by unfold PySem.W.kitOne; simp)⟩,
    a_Web_eq,
    i_Web_eq,
    hne_Web,
    na_Web_machines,
    na_Web_wires,
    PySem.W.mg_of X G co_MOST_MACHINES,
    PySem.W.mg_none_of X G z_isinstance,
    PySem.W.mg_none_of X G z_int,
    PySem.W.mg_none_of X G z_bool,
    PySem.W.mg_none_of X G z_list,
    PySem.W.mg_none_of X G z_tuple,
    PySem.W.mg_none_of X G z_len,
    PySem.W.mg_none_of X G z_all,
    PySem.W.mg_none_of X G z_enumerate,
    PySem.W.mg_none_of X G z_sorted,
    PySem.W.mg_none_of X G z_set,
    PySem.W.mg_none_of X G z_range,
    PySem.W.mg_none_of X G z_zip,
    PySem.W.mg_none_of X G z_abs,
    PySem.W.mg_none_of X G z_min⟩
  exact ⟨PySem.W.fnOf "law" "law" (defArgs s_law) (defBody s_law) (defScope s_law) .none kV_law dc_law pm_law an_law cd_law ct_law, fun s v => .of_eq rfl, fun base _ _ => ok_law T⟩
theorem walk {l : PySem.W.OpenLaw} {q : Program} {loose : List Str} {XP : (Str → Option Value) → Heap → Prop} {YP : World → Heap → Prop} {d : DefRec} {K : Params → PySem.W.Frag} (hn : l.most = some 63) (hdf : d.params.defaults = [])
    (hY : ∀ (w : World) (h : Heap), YP w h → (K w.params).In h)
    (F : ∀ (w : World) (mg : Str → Option Value) (fa : Addr) (h : Heap), (K w.params).In h → h.Ns mainGlobals mg → mg d.name = some (.ref fa) →
      ∃ fd : FuncData, (∀ (s : Shared) (u : Value), BindsTo s fd ⟨[u], []⟩ [("_law_script", u)]) ∧ ∀ base : Heap, (K w.params).In base → base.Ns mainGlobals mg → FnOk l.prog w (K w.params) mg base CX0 12 fa fd ["_law_script"] (spLaw (K w.params))) :
    PySem.W.WalkO q loose XP YP l.row.toRowW d [] (fun f vs => PySem.call f vs) :=
  L2.walk_of (n := 63) (k := 12) (x := "_law_script") (CX := fun _ => CX0) (sp := fun w => spLaw (K w.params)) hn (by decide) hdf ⟨rfl, by decide, by decide⟩ hY F (fun _ _ a ns hl _ hS => ⟨a, ns, rfl, hS, hl, fun _ => rfl⟩) fun _ _ _ _ _ z => z
end Mine
/-! ## KZ -/
open PySem PySem.W PyProof.Rows in
set_option maxRecDepth 100000 in
set_option maxHeartbeats 0 in
theorem PySem.Challenge.cw_growalong_k02_whole_webs_made_by_words_holds : PySem.Challenge.rw_growalong_k02_whole_webs_made_by_words.Holds := by
  w_on; o_law; k_head; (case hw => w_witness2)
  k_fill
  refine Mine.walk (l := PySem.Challenge.rw_growalong_k02_whole_webs_made_by_words) rfl rfl (fun w h Y => PySem.W.kIn_of Y) ?F
  case F =>
    intro w mg fa h KX G hmg
    refine' Mine.all_mk KX G hmg ?aC_Web ?a_is_integer ?l_is_integer ?c_is_integer ?k_is_integer ?a_is_between ?l_is_between ?c_is_between ?k_is_between ?a_is_below ?l_is_below ?c_is_below ?k_is_below ?a_is_list_or_tuple ?l_is_list_or_tuple ?c_is_list_or_tuple ?k_is_list_or_tuple ?a_is_tuple_of ?l_is_tuple_of ?c_is_tuple_of ?k_is_tuple_of ?a_are_below ?l_are_below ?c_are_below ?k_are_below ?a_is_unlike_pair ?l_is_unlike_pair ?c_is_unlike_pair ?k_is_unlike_pair ?a_Web_init ?i_Web_init ?l_Web_init ?c_Web_init ?k_Web_init ?a_Web_eq ?i_Web_eq ?l_Web_eq ?c_Web_eq ?k_Web_eq ?a_first_wrong_wire ?l_first_wrong_wire ?c_first_wrong_wire ?k_first_wrong_wire ?a_web_of_any_size ?l_web_of_any_size ?c_web_of_any_size ?k_web_of_any_size ?a_there_and_back ?l_there_and_back ?c_there_and_back ?k_there_and_back ?a_all_but ?l_all_but ?c_all_but ?k_all_but ?a_check_number ?l_check_number ?c_check_number ?k_check_number ?a_are_pairs ?l_are_pairs ?c_are_pairs ?k_are_pairs ?a_both_ways ?l_both_ways ?c_both_ways ?k_both_ways ?a_full ?l_full ?c_full ?k_full ?a_web_of_all_wires ?l_web_of_all_wires ?c_web_of_all_wires ?k_web_of_all_wires ?a_hub ?l_hub ?c_hub ?k_hub ?a_line ?l_line ?c_line ?k_line ?a_ring ?l_ring ?c_ring ?k_ring ?a_neighbours ?l_neighbours ?c_neighbours ?k_neighbours ?a_renamed ?l_renamed ?c_renamed ?k_renamed ?a_is_order ?l_is_order ?c_is_order ?k_is_order ?a_with_wire ?l_with_wire ?c_with_wire ?k_with_wire ?a_without_wire ?l_without_wire ?c_without_wire ?k_without_wire ?a__law_hand ?l__law_hand ?c__law_hand ?k__law_hand ?a__law_draw ?l__law_draw ?c__law_draw ?k__law_draw ?a__law_is ?l__law_is ?c__law_is ?k__law_is ?a__law_web ?l__law_web ?c__law_web ?k__law_web ?a__law_all_wires ?l__law_all_wires ?c__law_all_wires ?k__law_all_wires ?a__law_is_web ?l__law_is_web ?c__law_is_web ?k__law_is_web ?a__law_doubled ?l__law_doubled ?c__law_doubled ?k__law_doubled ?a__law_order ?l__law_order ?c__law_order ?k__law_order ?a__law_turned_right ?l__law_turned_right ?c__law_turned_right ?k__law_turned_right ?a_law ?l_law ?c_law ?k_law ?pg_Web ?hd_Web ?po_Web ?sa_Web ?mk_Web ?kc_Web ?ha_Web ?hn_Web ?ht_Web ?hm_Web ?hne_Web ?na_Web_machines ?na_Web_wires ?co_MOST_MACHINES ?z_isinstance ?z_int ?z_bool ?z_list ?z_tuple ?z_len ?z_all ?z_enumerate ?z_sorted ?z_set ?z_range ?z_zip ?z_abs ?z_min
    (case aC_Web => k_is)
    (case a_is_integer => k_is)
    (case l_is_integer => k_is)
    (case c_is_integer => k_is)
    (case k_is_integer => k_is)
    (case a_is_between => k_is)
    (case l_is_between => k_is)
    (case c_is_between => k_is)
    (case k_is_between => k_is)
    (case a_is_below => k_is)
    (case l_is_below => k_is)
    (case c_is_below => k_is)
    (case k_is_below => k_is)
    (case a_is_list_or_tuple => k_is)
    (case l_is_list_or_tuple => k_is)
    (case c_is_list_or_tuple => k_is)
    (case k_is_list_or_tuple => k_is)
    (case a_is_tuple_of => k_is)
    (case l_is_tuple_of => k_is)
    (case c_is_tuple_of => k_is)
    (case k_is_tuple_of => k_is)
    (case a_are_below => k_is)
    (case l_are_below => k_is)
    (case c_are_below => k_is)
    (case k_are_below => k_is)
    (case a_is_unlike_pair => k_is)
    (case l_is_unlike_pair => k_is)
    (case c_is_unlike_pair => k_is)
    (case k_is_unlike_pair => k_is)
    (case a_Web_init => k_is)
    (case i_Web_init => k_is)
    (case l_Web_init => k_is)
    (case c_Web_init => k_is)
    (case k_Web_init => k_is)
    (case a_Web_eq => k_is)
    (case i_Web_eq => k_is)
    (case l_Web_eq => k_is)
    (case c_Web_eq => k_is)
    (case k_Web_eq => k_is)
    (case a_first_wrong_wire => k_is)
    (case l_first_wrong_wire => k_is)
    (case c_first_wrong_wire => k_is)
    (case k_first_wrong_wire => k_is)
    (case a_web_of_any_size => k_is)
    (case l_web_of_any_size => k_is)
    (case c_web_of_any_size => k_is)
    (case k_web_of_any_size => k_is)
    (case a_there_and_back => k_is)
    (case l_there_and_back => k_is)
    (case c_there_and_back => k_is)
    (case k_there_and_back => k_is)
    (case a_all_but => k_is)
    (case l_all_but => k_is)
    (case c_all_but => k_is)
    (case k_all_but => k_is)
    (case a_check_number => k_is)
    (case l_check_number => k_is)
    (case c_check_number => k_is)
    (case k_check_number => k_is)
    (case a_are_pairs => k_is)
    (case l_are_pairs => k_is)
    (case c_are_pairs => k_is)
    (case k_are_pairs => k_is)
    (case a_both_ways => k_is)
    (case l_both_ways => k_is)
    (case c_both_ways => k_is)
    (case k_both_ways => k_is)
    (case a_full => k_is)
    (case l_full => k_is)
    (case c_full => k_is)
    (case k_full => k_is)
    (case a_web_of_all_wires => k_is)
    (case l_web_of_all_wires => k_is)
    (case c_web_of_all_wires => k_is)
    (case k_web_of_all_wires => k_is)
    (case a_hub => k_is)
    (case l_hub => k_is)
    (case c_hub => k_is)
    (case k_hub => k_is)
    (case a_line => k_is)
    (case l_line => k_is)
    (case c_line => k_is)
    (case k_line => k_is)
    (case a_ring => k_is)
    (case l_ring => k_is)
    (case c_ring => k_is)
    (case k_ring => k_is)
    (case a_neighbours => k_is)
    (case l_neighbours => k_is)
    (case c_neighbours => k_is)
    (case k_neighbours => k_is)
    (case a_renamed => k_is)
    (case l_renamed => k_is)
    (case c_renamed => k_is)
    (case k_renamed => k_is)
    (case a_is_order => k_is)
    (case l_is_order => k_is)
    (case c_is_order => k_is)
    (case k_is_order => k_is)
    (case a_with_wire => k_is)
    (case l_with_wire => k_is)
    (case c_with_wire => k_is)
    (case k_with_wire => k_is)
    (case a_without_wire => k_is)
    (case l_without_wire => k_is)
    (case c_without_wire => k_is)
    (case k_without_wire => k_is)
    (case a__law_hand => k_is)
    (case l__law_hand => k_is)
    (case c__law_hand => k_is)
    (case k__law_hand => k_is)
    (case a__law_draw => k_is)
    (case l__law_draw => k_is)
    (case c__law_draw => k_is)
    (case k__law_draw => k_is)
    (case a__law_is => k_is)
    (case l__law_is => k_is)
    (case c__law_is => k_is)
    (case k__law_is => k_is)
    (case a__law_web => k_is)
    (case l__law_web => k_is)
    (case c__law_web => k_is)
    (case k__law_web => k_is)
    (case a__law_all_wires => k_is)
    (case l__law_all_wires => k_is)
    (case c__law_all_wires => k_is)
    (case k__law_all_wires => k_is)
    (case a__law_is_web => k_is)
    (case l__law_is_web => k_is)
    (case c__law_is_web => k_is)
    (case k__law_is_web => k_is)
    (case a__law_doubled => k_is)
    (case l__law_doubled => k_is)
    (case c__law_doubled => k_is)
    (case k__law_doubled => k_is)
    (case a__law_order => k_is)
    (case l__law_order => k_is)
    (case c__law_order => k_is)
    (case k__law_order => k_is)
    (case a__law_turned_right => k_is)
    (case l__law_turned_right => k_is)
    (case c__law_turned_right => k_is)
    (case k__law_turned_right => k_is)
    (case a_law => k_is)
    (case l_law => k_is)
    (case c_law => k_is)
    (case k_law => k_is)
    (case pg_Web => k_is)
    (case hd_Web => k_is)
    (case po_Web => k_is)
    (case sa_Web => k_is)
    (case mk_Web => k_is)
    (case kc_Web => k_is)
    (case ha_Web => k_is)
    (case hn_Web => k_is)
    (case ht_Web => k_is)
    (case hm_Web => k_is)
    (case hne_Web => k_is)
    (case na_Web_machines => k_is)
    (case na_Web_wires => k_is)
    (case co_MOST_MACHINES => k_is)
    (case z_isinstance => k_is)
    (case z_int => k_is)
    (case z_bool => k_is)
    (case z_list => k_is)
    (case z_tuple => k_is)
    (case z_len => k_is)
    (case z_all => k_is)
    (case z_enumerate => k_is)
    (case z_sorted => k_is)
    (case z_set => k_is)
    (case z_range => k_is)
    (case z_zip => k_is)
    (case z_abs => k_is)
    (case z_min => k_is)

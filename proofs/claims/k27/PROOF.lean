import PyProof.Rows.All
import Wide.All
import OpenK.AllK
import Wide.FinOn
import HandS.ForMost
import HandS.Deep
import HandS.IsInst
import HandS.TupLe
import HandS.TupAny
import HandS.TupSets
import HandS.Style
import HandS.Zip
import HandS.More
import HandS.SortInts
import HandS.Codes
import HandS.Walk
import HandS.Iter
import KE.GoesEnum
import PyProof.Rows.SortShell
import HandS.Conv
import HandS.OwnEq
import PyProof.InstNe
import HandS.Strs
import PyProof.WalksMore
import KE.KDictPairs
import KE.KDictCopyH
import KE.KDictKeyed
import HandS.SetFor
import HandS.Exc
import HandS.ExcInit
import HandS.ExcIs
import HandS.ExcField
import HandS.WordsExc
import HandS.CallSlots
import KE.KExcIs
import PyProof.FactsAll.dict
import HandS.TupMul
import PyProof.EqAt
import PyProof.EqKinds
import PyProof.TupleCall
import KE.GoesMore
import HandS.Ends
import HandS.HeadHook3
import HandS.Text
import HandS.Replace
import PySem.Challenge.RW_growalong_k27_programs_judged_and_compar
set_option Elab.async false
set_option linter.all false
set_option maxRecDepth 100000
set_option maxHeartbeats 4000000
/-! ## GA -/
namespace GA
open PySem L2

/-! ### heaps: what stays -/
/-- tuples stay -/
def Ts (H H' : Hp) : Prop := ∀ a xs, Rd H a (.tup xs) → Rd H' a (.tup xs)
/-- the pool of draws: a list at hd of two ints and the list of ints at c -/
def Hand (H : Hp) (hd c : Addr) : Prop := c ≠ hd ∧ (∃ ns : List Int, H c = some (.lst (ns.map V.int))) ∧ ∃ (i b : Int), H hd = some (.lst [.int i, .int b, .ref c])
/-- all that stood stands, but for the hand's own list -/
structure G (o : Option (Addr × Addr)) (H H' : Hp) : Prop where
  keep : ∀ a u, (∀ p, o = some p → a ≠ p.1 ∧ a ≠ p.2) → H a = some u → H' a = some u
  tups : Ts H H'
  hand : ∀ p, o = some p → Hand H p.1 p.2 → Hand H' p.1 p.2
theorem G.refl {o : Option (Addr × Addr)} {H : Hp} : G o H H := ⟨fun _ _ _ h => h, fun _ _ h => h, fun _ _ h => h⟩
theorem G.trans {o : Option (Addr × Addr)} {H H1 H2 : Hp} (a : G o H H1) (b : G o H1 H2) : G o H H2 :=
  ⟨fun x u n h => b.keep x u n (a.keep x u n h), fun x xs h => b.tups x xs (a.tups x xs h), fun p e h => b.hand p e (a.hand p e h)⟩
theorem G.all {H H' : Hp} (g : G none H H') (a : Addr) (u : HO) (h : H a = some u) : H' a = some u := g.keep a u (fun p e => nomatch e) h
theorem G.of_all {o : Option (Addr × Addr)} {H H' : Hp} (k : ∀ a u, H a = some u → H' a = some u) : G o H H' :=
  ⟨fun a u _ h => k a u h, fun a xs h => h.elim (fun h => .inl (k _ _ h)) fun ⟨ob, h⟩ => .inr ⟨ob, k _ _ h⟩,
    fun p _ ⟨n, ⟨ns, h1⟩, i, b, h2⟩ => ⟨n, ⟨ns, k _ _ h1⟩, i, b, k _ _ h2⟩⟩
theorem G.up {o : Option (Addr × Addr)} {H H' : Hp} (g : G none H H') : G o H H' := G.of_all g.all
theorem G.alloc {o : Option (Addr × Addr)} {H : Hp} {p : Addr} {u : HO} (h : H p = none) : G o H (upd H p u) := G.of_all fun a w e => by
  rw [upd_ne (ne_of_none e h)]; exact e
/-- a thing that H does not know is changed -/
theorem G.mut {o : Option (Addr × Addr)} {H H' : Hp} {l : Addr} {u : HO} (g : G o H H') (h : H l = none) (hh : ∀ p, o = some p → Hand H p.1 p.2) : G o H (upd H' l u) := by
  refine ⟨fun a w n e => ?_, fun a xs e => ?_, fun p e x => ?_⟩
  · rw [upd_ne (ne_of_none e h)]; exact g.keep a w n e
  · have ne : a ≠ l := by
      rcases e with e | ⟨ob, e⟩ <;> exact ne_of_none e h
    rcases g.tups a xs e with q | ⟨ob, q⟩
    · exact .inl (by rw [upd_ne ne]; exact q)
    · exact .inr ⟨ob, by rw [upd_ne ne]; exact q⟩
  · obtain ⟨n0, ⟨ns0, h0⟩, i0, b0, h1⟩ := hh p e
    obtain ⟨n, ⟨ns, h2⟩, i, b, h3⟩ := g.hand p e x
    exact ⟨n, ⟨ns, by rw [upd_ne (ne_of_none h0 h)]; exact h2⟩, i, b, by rw [upd_ne (ne_of_none h1 h)]; exact h3⟩
theorem Hand.ne {H : Hp} {hd c l : Addr} (x : Hand H hd c) (h : H l = none) : l ≠ hd ∧ l ≠ c := by
  obtain ⟨_, ⟨_, h0⟩, _, _, h1⟩ := x
  exact ⟨fun e => (by rw [← e, h] at h1; cases h1), fun e => (by rw [← e, h] at h0; cases h0)⟩
/-- an address that is not the hand's -/
def Off (o : Option (Addr × Addr)) (a : Addr) : Prop := ∀ p, o = some p → a ≠ p.1 ∧ a ≠ p.2
/-! ### data without lists -/
mutual
def nl : PyData → Bool
  | .list _ => false
  | .dict _ => false
  | .tuple ds => nls ds
  | .none => true
  | .bool _ => true
  | .int _ => true
  | .str _ => true
def nls : List PyData → Bool
  | [] => true
  | d :: ds => nl d && nls ds
end
theorem nls_iff : ∀ {ds : List PyData}, nls ds = true ↔ ∀ d ∈ ds, nl d = true
  | [] => by simp [nls]
  | d :: ds => by simp [nls, nls_iff (ds := ds)]
section
variable {K : PySem.W.Frag} {H H' : Hp}
theorem sqT_t (t : Ts H H') {a : Addr} {xs : List V} (h : SqT K H a xs) : SqT K H' a xs := h.elim (fun h => .inl (t _ _ h)) .inr
mutual
theorem dp_t (t : Ts H H') : ∀ (d : PyData) (v : V), nl d = true → Dp K H v d → Dp K H' v d
  | .none, _, _, h => by cases h; exact .non
  | .bool b, _, _, h => by cases h; exact .bl b
  | .int i, _, _, h => by cases h; exact .int i
  | .str x, _, _, h => by cases h; exact .str x
  | .list ds, _, n, _ => by simp [nl] at n
  | .dict ds, _, n, _ => by simp [nl] at n
  | .tuple ds, _, n, h => by
    cases h with
    | tup hs ha => exact .tup (sqT_t t hs) (dpAll_t t ds _ (by simpa [nl] using n) ha)
theorem dpAll_t (t : Ts H H') : ∀ (ds : List PyData) (vs : List V), nls ds = true → DpAll K H vs ds → DpAll K H' vs ds
  | [], _, _, h => by cases h; exact .nil
  | d :: ds, _, n, h => by
    cases h with
    | cons h1 h2 =>
      have n' : nl d = true ∧ nls ds = true := by simpa [nls] using n
      exact .cons (dp_t t d _ n'.1 h1) (dpAll_t t ds _ n'.2 h2)
end
theorem DpAll.length : ∀ {vs : List V} {ds : List PyData}, DpAll K H vs ds → vs.length = ds.length
  | _, _, .nil => rfl
  | _, _, .cons _ t => by simp [DpAll.length t]
theorem DpAll.app : ∀ {vs ws : List V} {ds es : List PyData}, DpAll K H vs ds → DpAll K H ws es → DpAll K H (vs ++ ws) (ds ++ es)
  | _, _, _, _, .nil, h => h
  | _, _, _, _, .cons h t, h' => .cons h (DpAll.app t h')
theorem DpAll.one {v : V} {d : PyData} (h : Dp K H v d) : DpAll K H [v] [d] := .cons h .nil
theorem DpAll.ints : ∀ (ns : List Int), DpAll K H (ns.map V.int) (ns.map PyData.int)
  | [] => .nil
  | n :: ns => .cons (.int n) (DpAll.ints ns)
theorem DpAll.of_ints : ∀ {ns : List Int} {vs : List V}, DpAll K H vs (ns.map PyData.int) → vs = ns.map V.int
  | [], _, .nil => rfl
  | n :: ns, _, .cons h t => by cases h; rw [DpAll.of_ints t]; rfl
end
abbrev dP (w : Int × Int) : PyData := .tuple [.int w.1, .int w.2]
theorem nls_pairs (ws : List (Int × Int)) : nls (ws.map dP) = true := by rw [nls_iff]; intro d h; simp only [List.mem_map] at h; obtain ⟨n, _, rfl⟩ := h; rfl
theorem nl_dP (w : Int × Int) : nl (dP w) = true := rfl
section
variable {K : PySem.W.Frag} {H H' : Hp}
end

/-! ### steps: a reading by its first part -/
section
variable {K : PySem.W.Frag} {σ : L2.St} {H : Hp} {Q : VK} {QB : Bool → Hp → Prop} {D : Ends} {ta tb tc te : TE} {t u : TT} {ts tu : TS} {r r' : R2} {v x y : V} {i j : Int} {n : Nat} {b : Bool} {A B : Prop}
theorem w_var {i : Nat} (h : σ[i]? = some (some v)) (q : Q v H) : tVar i σ H Q := ⟨v, h, q⟩
theorem w_c (q : Q v H) : tC v σ H Q := q
theorem w_op (q : ta σ H fun x H1 => tb σ H1 fun y H2 => r x y H2 Q) : tOp r ta tb σ H Q := q
theorem w_un {f : V → Hp → VK → Prop} (q : ta σ H fun x H1 => f x H1 Q) : tUn f ta σ H Q := q
theorem w_seq (q : ts { D with nx := tu D } σ H) : tSeq ts tu D σ H := q
theorem w_next (q : D.nx σ H) : tNext D σ H := q
theorem w_break (q : D.bk σ H) : tBreak D σ H := q
theorem w_set {i : Nat} (q : te σ H fun x H1 => D.nx (σ.set i (some x)) H1) : tAsg te (gName i) D σ H := q
theorem w_asg {g : TG} (q : te σ H fun x H1 => g x σ H1 D.nx) : tAsg te g D σ H := q
theorem w_drop (q : te σ H fun _ H1 => D.nx σ H1) : tDrop te D σ H := q
theorem w_ret (q : te σ H D.rt) : tRet te D σ H := q
theorem w_retN (q : D.rt .non H) : tRetN D σ H := q
theorem w_ifS (q : t σ H fun b H1 => if b = true then ts D σ H1 else tu D σ H1) : tIfS t ts tu D σ H := q
theorem w_test (q : te σ H fun x H' => ∃ k, x = .bl k ∧ QB k H') : tTest te σ H QB := q
theorem w_tB (q : te σ H fun x H' => ∃ k, x = .bl k ∧ QB k H') : tB te σ H QB := q
theorem w_bl (q : QB b H) : ∃ k, V.bl b = .bl k ∧ QB k H := ⟨b, rfl, q⟩
theorem w_not (q : t σ H fun c H1 => QB (!c) H1) : tNot t σ H QB := q
theorem w_and (q : t σ H fun c H1 => if c = true then u σ H1 QB else QB false H1) : tAnd t u σ H QB := q
theorem w_or (q : t σ H fun c H1 => if c = true then QB true H1 else u σ H1 QB) : tOr t u σ H QB := q
theorem w_andV (q : ta σ H fun x H1 => ∃ c, x = .bl c ∧ if c = true then tb σ H1 Q else Q (.bl false) H1) : tAndV ta tb σ H Q := q
theorem w_orV (q : ta σ H fun x H1 => ∃ c, x = .bl c ∧ if c = true then Q (.bl true) H1 else tb σ H1 Q) : tOrV ta tb σ H Q := q
theorem w_notV (q : ta σ H fun x H1 => ∃ c, x = .bl c ∧ Q (.bl (!c)) H1) : tNotV ta σ H Q := q
theorem w_if (q : t σ H fun c H1 => if c = true then ta σ H1 Q else tb σ H1 Q) : tIf t ta tb σ H Q := q
theorem w_blc {F : Bool → Prop} (q : F b) : ∃ c, V.bl b = .bl c ∧ F c := ⟨b, rfl, q⟩
theorem w_nil {QA : List V → Hp → Prop} (q : QA [] H) : tNil σ H QA := q
theorem w_cons {tr : TA} {QA : List V → Hp → Prop} (q : te σ H fun x H1 => tr σ H1 fun xs H2 => QA (x :: xs) H2) : tCons te tr σ H QA := q
theorem w_CB {f : List V → Hp → VK → Prop} {tr : TA} (q : tr σ H fun vs H1 => f vs H1 Q) : tCB f tr σ H Q := q
theorem w_call {sp : Sp} {E : XK} {tr : TA} (q : tr σ H fun vs H1 => sp (vs ++ []) H1 Q E) : tCall sp [] E tr σ H Q := q
theorem w_chain (q : ta σ H fun x H1 => tb σ H1 fun y H2 => r x y H2 fun z H3 => ∃ k, z = .bl k ∧ (if k = true then tc σ H3 fun w' H4 => r' y w' H4 Q else Q (.bl false) H3)) : tChain r r' ta tb tc σ H Q := q
theorem w_sl {f : V → Option Int → Option Int → Hp → VK → Prop} {tl th : TO} (q : te σ H fun x H1 => tl σ H1 fun l H2 => th σ H2 fun u H3 => f x l u H3 Q) : tSl f te tl th σ H Q := q
theorem w_part {QO : Option Int → Hp → Prop} (q : te σ H fun x H1 => ∃ i, x = .int i ∧ QO (some i) H1) : tPart te σ H QO := q
theorem w_noPart {QO : Option Int → Hp → Prop} (q : QO none H) : tNoPart σ H QO := q
theorem w_inti {F : Int → Prop} (q : F i) : ∃ k, V.int i = .int k ∧ F k := ⟨i, rfl, q⟩
theorem w_fld {f : Str} (q : te σ H fun x H1 => ∃ a C dx fs v, x = .ref a ∧ H1 a = some (.ins C dx fs) ∧ Cls K C ∧ NoAttr K C f ∧ fs.lookup f = some v ∧ Q v H1) : tFld K te f σ H Q := q
theorem w_sfld {f : Str} (q : tb σ H fun y H1 => ta σ H1 fun x H2 => ∃ a C dx fs, x = .ref a ∧ H2 a = some (.ins C dx fs) ∧ Cls K C ∧ NoAttr K C f ∧ fs.length < 1000 ∧ D.nx σ (upd H2 a (.ins C dx (putF f y fs)))) : sFld K ta tb f D σ H := q
theorem w_gsub {to ti : TE} {s : TSet} {QS : L2.St → Hp → Prop} (q : to σ H fun o H1 => ti σ H1 fun i H2 => s o i v H2 fun H3 => QS σ H3) : gSub to ti s v σ H QS := q
theorem w_gname {i : Nat} {QS : L2.St → Hp → Prop} (q : QS (σ.set i (some v)) H) : gName i v σ H QS := q
/-! by values -/
theorem r_I0 {g : Int → Int → V} (q : Q (g i j) H) : rI0 g (.int i) (.int j) H Q := ⟨i, j, rfl, rfl, q⟩
theorem r_I {C : Int → Int → Prop} {g : Int → Int → V} (c : C i j) (q : Q (g i j) H) : rI C g (.int i) (.int j) H Q := ⟨i, j, rfl, rfl, c, q⟩
theorem r_U {g : Int → V} (q : Q (g i) H) : rU g (.int i) H Q := ⟨i, rfl, q⟩
theorem r_eqI (q : Q (.bl (decide (i = j))) H) : rEq (.int i) (.int j) H Q := ⟨rfl, by
  have e : decide (V.int i = V.int j) = decide (i = j) := by simp
  rw [e]; exact q⟩
theorem r_neI (q : Q (.bl (!decide (i = j))) H) : rNe (.int i) (.int j) H Q := ⟨rfl, by
  have e : decide (V.int i = V.int j) = decide (i = j) := by simp
  rw [e]; exact q⟩
theorem r_eqB {a b : Bool} (q : Q (.bl (decide (a = b))) H) : rEq (.bl a) (.bl b) H Q := ⟨rfl, by
  have e : decide (V.bl a = V.bl b) = decide (a = b) := by simp
  rw [e]; exact q⟩
theorem r_neB {a b : Bool} (q : Q (.bl (!decide (a = b))) H) : rNe (.bl a) (.bl b) H Q := ⟨rfl, by
  have e : decide (V.bl a = V.bl b) = decide (a = b) := by simp
  rw [e]; exact q⟩
theorem r_ixT {p : Addr} {xs : List V} (h : SqT K H p xs) (e : atI xs i = some v) (q : Q v H) : rIxT K (.ref p) (.int i) H Q := ⟨p, xs, i, v, rfl, rfl, h, e, q⟩
theorem r_ixL {p : Addr} {xs : List V} (h : SqL K H p xs) (e : atI xs i = some v) (q : Q v H) : rIxL K (.ref p) (.int i) H Q := ⟨p, xs, i, v, rfl, rfl, h, e, q⟩
theorem w_ite (h1 : b = true → A) (h2 : b = false → B) : if b = true then A else B := by
  cases b with
  | true => exact h1 rfl
  | false => exact h2 rfl
end
end GA
/-! ## GB -/
namespace PySem
open Sem (wp)
open AutoSeq1 (wpAny_loadPart')
theorem ga_enumerate_newT (l : Addr) (items : Array Value) :
    Meets (Builtin.«enumerate.__new__» ⟨[.type "enumerate", .ref l], []⟩) (fun _ R s => s.heap.IsTuple l items ∧
      R (.ok (.ret (.ref (s.heap.push { cls := .type "tuple_iterator", data := .fields #[.ref l, .int 0 0] }).objs.size)))
        { s with heap := (s.heap.push { cls := .type "tuple_iterator", data := .fields #[.ref l, .int 0 0] }).push { cls := .type "enumerate", data := .fields #[.none, .bool false, .ref s.heap.objs.size, rawInt 0, .none, .none] } }) :=
  .of_wp fun prog w A R s h => by
    obtain ⟨hp, g, d, tk, os⟩ := s; obtain ⟨hl, h⟩ := h
    have hsub := sub_enumerate
    have hL : Heap.IsTuple (Shared.heap ⟨hp, g, d, tk, os⟩) l items := hl
    obtain ⟨ob, hob, _⟩ := id hl
    wp_walk using wpAny_loadPart' hob
    refine wpAny_stack_any fun st => wpAny_pure ?_
    split
    · rename_i c _ _ _ _ _
      cases (c == Value.type "enumerate")
      · wp_walk using wpAny_loadPart' hob, wpAny_pyIter_tuple hL
        exact ⟨_, rfl, h⟩
      · wp_walk using wpAny_loadPart' hob, wpAny_pyIter_tuple hL
        exact ⟨_, rfl, h⟩
    · wp_walk using wpAny_loadPart' hob, wpAny_pyIter_tuple hL
      exact ⟨_, rfl, h⟩
theorem ga_enumerate_tuple {prog : Program} {w : World} {A : Around} {E : Value → Shared → Prop} {s : Shared} {l : Addr} {items : Array Value} {Q : Value → Shared → Prop} (hL : s.heap.IsTuple l items)
    (h : ∀ h', IsEnum h' (s.heap.objs.size + 1) s.heap.objs.size 0 .none → h'.IsTupleIter s.heap.objs.size l 0 → h'.objs.size = s.heap.objs.size + 2 →
      (∀ b o, s.heap.get? b = some o → h'.get? b = some o) → Q (.ref (s.heap.objs.size + 1)) { s with heap := h' }) :
    wpAny (model prog w) A (call (.type "enumerate") [.ref l]) Q E s := by
  refine callType_new F.called_enumerate (by decide) (F.typeCall_enumerate_1 _) (F.newCall_enumerate_1 _) (fun obj => F.args_object_init_2 obj _) F.entry_enumerate_new
    (ga_enumerate_newT l items) ⟨hL, ?_⟩
  have hz : (s.heap.push { cls := .type "tuple_iterator", data := .fields #[.ref l, .int 0 0] }).objs.size = s.heap.objs.size + 1 := Heap.size_push ..
  show _ ∧ _
  rw [hz]
  have he : IsEnum ((s.heap.push { cls := .type "tuple_iterator", data := .fields #[.ref l, .int 0 0] }).push
      { cls := .type "enumerate", data := .fields #[.none, .bool false, .ref s.heap.objs.size, rawInt 0, .none, .none] }) (s.heap.objs.size + 1) s.heap.objs.size 0 .none := by
    have := Heap.get?_push_size (s.heap.push { cls := .type "tuple_iterator", data := .fields #[.ref l, .int 0 0] })
      (o := { cls := .type "enumerate", data := .fields #[.none, .bool false, .ref s.heap.objs.size, rawInt 0, .none, .none] }) rfl
    rw [hz] at this; exact this
  refine ⟨⟨_, he, rfl⟩, h _ he ⟨_, Heap.get?_push_of_some _ (Heap.get?_push_size _ rfl), rfl, rfl⟩ (by rw [Heap.size_push, hz]) fun b o x => Heap.get?_push_of_some _ (Heap.get?_push_of_some _ x)⟩
end PySem
namespace GA
open PySem PySem.Spec PyProof.Rows L2
/-- enumerate over a tuple -/
def IteT (K : PySem.W.Frag) (a : Addr) : It :=
  ⟨fun i H => ∃ (xs : List V) (x : V), SqT K H a xs ∧ xs[i]? = some x, fun i H v H' => ∃ T x, v = .ref T ∧ H T = none ∧ H' = upd H T (.tup [.int (i : Nat), x]) ∧ ∀ xs, SqT K H a xs → xs[i]? = some x, fun i H => ∃ xs : List V, SqT K H a xs ∧ xs.length ≤ i⟩
theorem turn_enumT {P : Program} {w : World} {K : PySem.W.Frag} {elts : List Expr} {kk : Nat} {tpos : Pos} (a e it : Addr) (nai : a ≠ it) (nae : a ≠ e) :
    Turn P w K (.Tuple elts kk tpos) (IteT K a) [e, it] e (fun i h => (∃ old, IsEnum h e it ((i : Nat) : Int) old) ∧ h.IsTupleIter it a i ∧ e ≠ it) where
  mem := by simp
  obj := fun i h st b hb => by
    obtain ⟨⟨old, he⟩, ⟨o, ho, hc, hd⟩, _⟩ := st
    have e' : b = e ∨ b = it := by simpa using hb
    rcases e' with z | z
    · rw [z]; exact ⟨_, he, fun v q => nomatch q⟩
    · rw [z]; exact ⟨o, ho, fun v q => by rw [hd] at q; cases q⟩
  keep := fun i h h' st k => let ⟨⟨old, he⟩, hi, hne⟩ := st; ⟨⟨old, k e (by simp) _ he⟩, hi.at fun o q => k it (by simp) o q, hne⟩
  item := by
    intro X hP hw hK hc i pins s σ H E I hf st hg
    subst hP hw hK
    obtain ⟨⟨old, he⟩, hit, hne⟩ := st
    obtain ⟨xs, x, hq, hx⟩ := hg
    obtain ⟨its, rv, p, hz⟩ := I.tuple hq
    obtain ⟨u, hu, ru⟩ := rv.get hx
    have hel : e < s.heap.objs.size := Heap.lt_size he
    have hil : it < s.heap.objs.size := by obtain ⟨_, q, _⟩ := hit; exact Heap.lt_size q
    have hi : i < its.toArray.size := by
      have := (List.getElem?_eq_some_iff.mp hu).1
      simpa using this
    refine wpAny_pyNext_enum_itemD (Draws.tuple (prog := X.prog) (w := X.w) (A := X.A.in1) (I.ok.hd hc) it a nai its.toArray) he ⟨hit, p⟩ hi hne (by simp [hne, Ne.symm nae]) fun v h' tk hv ho hst hT hsz hk => ?_
    have ev : v = u := by
      have z : its.toArray[i]? = some u := by simpa using hu
      rw [z] at hv; exact (Option.some.inj hv).symm
    subst ev
    refine ⟨_, rfl, wpAny_letOwnedTupleGo_enum (s := { s with heap := h', toks := tk + 1 }) ho fun h'' he' sb => ?_⟩
    have hT2 : h''.get? s.heap.objs.size = some { cls := .type "tuple", data := .seq #[.int i tk, v] } := (sb.2 _ (Nat.ne_of_gt hel)).trans hT
    have new : ObjOk X.prog X.w (upd H s.heap.objs.size (.tup [.int (i : Nat), x])) h'' s.heap.objs.size (.tup [.int (i : Nat), x]) :=
      ⟨by show 2 ≤ sizeLine; decide, [.int i tk, v], .cons ⟨_, rfl⟩ (.cons ru .nil), ⟨_, hT2, rfl, _, rfl⟩⟩
    have I1 : Inv X pins σ (upd H s.heap.objs.size (.tup [.int (i : Nat), x])) { s with heap := h'', toks := tk + 1 } :=
      I.turnedNew (ch := [e, it]) (fun b ob hb q => (sb.2 b (fun z => hb (by simp [z]))).trans (hk b ob (fun z => hb (by simp [z])) (fun z => hb (by simp [z])) q)) hf (Nat.le_refl _) new
    refine ⟨.ref s.heap.objs.size, _, I1, rfl, ⟨_, x, rfl, I.hok.fresh (Nat.le_refl _), rfl, fun ys hy => by rw [I.tuple_inj hy hq]; exact hx⟩, ⟨⟨v, ?_⟩, hst.1.at fun o q => (sb.2 it (Ne.symm hne)).trans q, hne⟩, fun b hb => ?_⟩
    · have e1 : ((i + 1 : Nat) : Int) = (i : Int) + 1 := by omega
      rw [e1]; exact he'
    · have hb' : b < s.heap.objs.size := by
        have e' : b = e ∨ b = it := by simpa using hb
        rcases e' with z | z
        · rw [z]; exact hel
        · rw [z]; exact hil
      rw [upd_ne (Nat.ne_of_lt hb')]
      exact (hf b hb).1
  done := by
    intro X hP hw hK hc i pins s σ H E I hf st hg
    subst hP hw hK
    obtain ⟨⟨old, he⟩, hit, hne⟩ := st
    obtain ⟨xs, hq, hx⟩ := hg
    obtain ⟨its, rv, p, hz⟩ := I.tuple hq
    obtain ⟨f0, f1, f2, f3, f4, f5⟩ := hf it (by simp)
    have hl := rv.length
    have hT : s.TypeIs (.ref e) "enumerate" := ⟨_, he, rfl⟩
    unfold pyNext
    refine wpAny_bind (wpAny_attempt (wpAny_callSpecial?_slot (name := Str.ofString "__next__") hT F.slot_enumerate_next
      (wpAny_call_entry F.slot_enumerate_next hT F.entry_enumerate_next ?_ (F.args_enumerate_next_1 _))))
    show wpAny _ _ (field (.ref e) 2 >>= _) _ _ _
    refine wpAny_bind (wpAny_field he rfl (x := .ref it) rfl ?_)
    refine wpAny_bind (wpAny_nextOf_tuple_end (I.ok.hd hc) hit p (by simp; omega) fun h' x' he' hx' => ?_)
    obtain ⟨o, ho, hc'⟩ := hx'
    refine wpAny_bind (wpAny_isInstance (T := "StopIteration") (b := true) ⟨o, ho, hc'⟩ isSubtype_stop ?_)
    exact wpAny_pure ⟨rfl, I.turned (t' := s.toks) (fun b o hb q => he' b o hb q) f0 f1 f3 f4 f5⟩
  self := by
    intro A i s Q E st h
    obtain ⟨⟨old, he⟩, _⟩ := st
    exact wpAny_pyIter_enum he h
def iEnumT (K : PySem.W.Frag) (ta : TA) : TI := fun σ H R => ta σ H fun vs H1 => ∃ a xs, vs = [.ref a] ∧ SqT K H1 a xs ∧ R (IteT K a) H1
theorem pi_enumT {X : Cx} {e : Expr} {ta : TA} {p pos tpos : Pos} {elts : List Expr} {kk : Nat} (hg : Gl X "enumerate") (hm : X.mg "enumerate" = none) (ha : PA X [e] ta) (hs : starEach [e] X.env = [(false, eval e X.env)] := by rfl) :
    PI X (.Tuple elts kk tpos) (.Call (.Name "enumerate" p) [e] [] pos) (iEnumT X.K ta) := by
  refine ⟨fun pins s σ H R I h => ?_⟩
  refine Call_ (ld_blt I hg hm boot_enumerate (PyProof.Rows.callWith_type1 (thn (ha.run pos pins s σ H _ I h) fun us s1 ⟨vs, H1, I1, r1, q1⟩ => ?_) hs rfl))
  obtain ⟨a, xs, ex, hq, q⟩ := q1
  subst ex
  cases r1 with
  | cons r rr =>
    cases rr
    cases r
    obtain ⟨its, rv, p', hz⟩ := I1.tuple hq
    have hal : a < s1.heap.objs.size := p'.lt
    refine ga_enumerate_tuple p' fun h' he hit hsz hk => wpAny_pyIter_enum he ?_
    have I2 : Inv X pins σ H1 { s1 with heap := h' } := I1.kept (t' := s1.toks) hk
    refine ⟨s1.heap.objs.size + 1, [s1.heap.objs.size + 1, s1.heap.objs.size], _, _, H1, rfl, I2, turn_enumT a (s1.heap.objs.size + 1) s1.heap.objs.size (Nat.ne_of_lt hal) (Nat.ne_of_lt (Nat.lt_succ_of_lt hal)), ⟨⟨.none, he⟩, hit, Nat.succ_ne_self _⟩, fun b hb => ?_, q⟩
    have e' : b = s1.heap.objs.size + 1 ∨ b = s1.heap.objs.size := by simpa using hb
    have hle : s1.heap.objs.size ≤ b := by
      rcases e' with z | z
      · rw [z]; exact Nat.le_add_right _ _
      · rw [z]; exact Nat.le_refl _
    exact I1.fpOk hle (I1.hok.fresh hle)
theorem walk_enumT {K : PySem.W.Frag} {a : Addr} {xs : List V} : Walk (IteT K a) xs.length (fun H => SqT K H a xs) (YPair (fun i => some (.int (i : Nat))) (fun i => xs[i]?)) := by
  refine ⟨fun i _ hi q => ⟨xs, xs[i], q, by simp [hi]⟩, fun _ q => ⟨xs, q, Nat.le_refl _⟩, fun i H v H' _ q y => ?_⟩
  obtain ⟨T, x, h1, h2, h3, h4⟩ := y
  exact ⟨T, .int (i : Nat), x, h1, h2, h3, rfl, h4 xs q⟩
end GA
/-! ## GC -/
namespace GA
open PySem L2
theorem Ts.of {H H' : Hp} (k : ∀ a u, H a = some u → (∀ xs, u ≠ .lst xs) → H' a = some u) : Ts H H' := fun a xs h => h.elim (fun h => .inl (k a _ h fun _ z => nomatch z)) fun ⟨ob, h⟩ => .inr ⟨ob, k a _ h fun _ z => nomatch z⟩
theorem Ts.updl {H : Hp} {D : Addr} {xs : List V} {u : HO} (h : H D = some (.lst xs)) : Ts H (upd H D u) := Ts.of fun a w e n => by
  rw [upd_ne (ne_of e h (n xs))]; exact e
theorem Ts.trans {H H1 H2 : Hp} (a : Ts H H1) (b : Ts H1 H2) : Ts H H2 := fun x xs h => b x xs (a x xs h)
section
variable {K : PySem.W.Frag} {J : It} {n : Nat} {Gd : Hp → Prop} {Y : Nat → Hp → V → Hp → Prop} {o : Option (Addr × Addr)} {H1 : Hp} {D : Addr} {g : TG} {tt : TT} {te : TE} {vs : List Nat} {σ : L2.St} {Qd : Hp → Prop}
/-- a comprehension: what it has made as data; Pv by the turn, the data, the heap -/
theorem lc_data (wk : Walk J n Gd Y) (hn : n ≤ 100000) (hD : H1 D = none) (hh : ∀ p, o = some p → Hand H1 p.1 p.2) (Pv : Nat → List PyData → Hp → Prop)
    (stab : ∀ i acc H xs l, Pv i acc H → H D = some (.lst xs) → Pv i acc (upd H D (.lst l)))
    (h0 : Pv 0 [] (upd H1 D (.lst [])))
    (hG : ∀ i acc H, G o H1 H → Pv i acc H → Gd H)
    (hs : ∀ i x acc H H', i < n → G o H1 H → Pv i acc H → Y i H x H' → ∀ (Qy : V → Hp → Prop) (Qn : Hp → Prop), (∀ y H4 e, G o H H4 → Dp K H4 y e → nl e = true → Pv (i + 1) (acc ++ [e]) H4 → Qy y H4) → (∀ H3, G o H H3 → Pv (i + 1) acc H3 → Qn H3) →
      g x (wipe σ vs) H' fun σ2 H2 => wipe σ2 vs = wipe σ vs ∧ tt σ2 H2 fun b H3 => if b = true then te σ2 H3 Qy else Qn H3)
    (hd : ∀ ds xs H', Pv n ds H' → G o H1 H' → H' D = some (.lst xs) → DpAll K H' xs ds → nls ds = true → Qd H') :
    ∃ W : Nat → Nat → Hp → Prop, (∃ m, W 0 m (upd H1 D (.lst []))) ∧ ∀ i m H, W i m H →
      (J.stop i H ∧ Qd H) ∨ (J.go i H ∧ ∃ Nx : Hp → Prop, (∀ H', Nx H' → ∃ m', m' < m ∧ W (i + 1) m' H') ∧ ∀ x H', J.yld i H x H' → g x (wipe σ vs) H' fun σ2 H2 => wipe σ2 vs = wipe σ vs ∧ tt σ2 H2 fun b H3 =>
        if b = true then te σ2 H3 fun y H4 => ∃ acc, H4 D = some (.lst acc) ∧ acc.length < sizeLine ∧ Nx (upd H4 D (.lst (acc ++ [y]))) else Nx H3) := by
  have offD : ∀ p, o = some p → D ≠ p.1 ∧ D ≠ p.2 := fun p e => (hh p e).ne hD
  refine lc_it wk (fun i H => ∃ ds xs, G o H1 H ∧ Pv i ds H ∧ H D = some (.lst xs) ∧ DpAll K H xs ds ∧ nls ds = true ∧ xs.length ≤ i) ?_ ?_ ?_ ?_
  · exact ⟨[], [], (G.refl).mut hD hh, h0, upd_same, .nil, rfl, Nat.le_refl _⟩
  · rintro i H _ ⟨ds, xs, q1, q2, _⟩
    exact hG i ds H q1 q2
  · rintro i x H H' hi ⟨ds, xs, q1, q2, q3, q4, q5, q6⟩ y
    have keepD : ∀ {H4 : Hp}, G o H H4 → H4 D = some (.lst xs) := fun g4 => g4.keep D _ offD q3
    refine hs i x ds H H' hi q1 q2 y _ _ (fun v H4 e g4 he ne hp => ?_) fun H3 g3 hp => ⟨ds, xs, q1.trans g3, hp, keepD g3, dpAll_t g3.tups _ _ q5 q4, q5, by omega⟩
    have hD4 := keepD g4
    have t4 : Ts H4 (upd H4 D (.lst (xs ++ [v]))) := Ts.updl hD4
    refine ⟨xs, hD4, Nat.lt_of_le_of_lt (by omega : xs.length ≤ 100000) (by decide), ds ++ [e], xs ++ [v], (q1.trans g4).mut hD hh, stab _ _ _ _ _ hp hD4, upd_same, ?_, ?_, ?_⟩
    · exact DpAll.app (dpAll_t (g4.tups.trans t4) _ _ q5 q4) (DpAll.one (dp_t t4 e v ne he))
    · rw [nls_iff] at q5 ⊢
      intro d hd
      rcases List.mem_append.mp hd with z | z
      · exact q5 d z
      · have : d = e := by simpa using z
        rw [this]; exact ne
    · rw [List.length_append, List.length_singleton]; omega
  · rintro H ⟨ds, xs, q1, q2, q3, q4, q5, _⟩
    exact hd ds xs H q2 q1 q3 q4 q5
/-- one whose items are told by their places -/
theorem lc_pure (wk : Walk J n Gd Y) (hn : n ≤ 100000) (hD : H1 D = none) (hh : ∀ p, o = some p → Hand H1 p.1 p.2) (f : Nat → Option PyData)
    (hG : ∀ H, G o H1 H → Gd H)
    (hs : ∀ i x H H', i < n → G o H1 H → Y i H x H' → ∀ (Qy : V → Hp → Prop) (Qn : Hp → Prop), (∀ y H4 e, G o H H4 → Dp K H4 y e → nl e = true → f i = some e → Qy y H4) → (∀ H3, G o H H3 → f i = none → Qn H3) →
      g x (wipe σ vs) H' fun σ2 H2 => wipe σ2 vs = wipe σ vs ∧ tt σ2 H2 fun b H3 => if b = true then te σ2 H3 Qy else Qn H3)
    (hd : ∀ xs H', G o H1 H' → H' D = some (.lst xs) → DpAll K H' xs ((List.range n).filterMap f) → nls ((List.range n).filterMap f) = true → Qd H') :
    ∃ W : Nat → Nat → Hp → Prop, (∃ m, W 0 m (upd H1 D (.lst []))) ∧ ∀ i m H, W i m H →
      (J.stop i H ∧ Qd H) ∨ (J.go i H ∧ ∃ Nx : Hp → Prop, (∀ H', Nx H' → ∃ m', m' < m ∧ W (i + 1) m' H') ∧ ∀ x H', J.yld i H x H' → g x (wipe σ vs) H' fun σ2 H2 => wipe σ2 vs = wipe σ vs ∧ tt σ2 H2 fun b H3 =>
        if b = true then te σ2 H3 fun y H4 => ∃ acc, H4 D = some (.lst acc) ∧ acc.length < sizeLine ∧ Nx (upd H4 D (.lst (acc ++ [y]))) else Nx H3) := by
  refine lc_data (K := K) wk hn hD hh (fun i acc _ => acc = (List.range i).filterMap f) (fun _ _ _ _ _ h _ => h) rfl (fun _ _ H q _ => hG H q) ?_ ?_
  · rintro i x acc H H' hi q1 rfl y Qy Qn ky kn
    refine hs i x H H' hi q1 y Qy Qn (fun y H4 e g4 he ne hf => ky y H4 e g4 he ne ?_) fun H3 g3 hf => kn H3 g3 ?_
    · rw [List.range_succ, List.filterMap_append]; simp [hf]
    · rw [List.range_succ, List.filterMap_append]; simp [hf]
  · rintro ds xs H' rfl q1 q2 q3 q4
    exact hd xs H' q1 q2 q3 q4
end
/-- what changes is the pool's list and the cells' one -/
theorem G.at_hd {H0 H' : Hp} {hd c : Addr} (x : Hand H0 hd c) (E : ∀ a, a ≠ hd → a ≠ c → H' a = H0 a) {i b : Int} {ns : List Int} (h : H' hd = some (.lst [.int i, .int b, .ref c])) (hc : H' c = some (.lst (ns.map V.int))) : G (some (hd, c)) H0 H' ∧ Hand H' hd c := by
  obtain ⟨n, ⟨ns0, h1⟩, i0, b0, h2⟩ := x
  have hh : Hand H' hd c := ⟨n, ⟨ns, hc⟩, i, b, h⟩
  refine ⟨⟨fun a u z e => ?_, fun a xs e => ?_, fun p e _ => ?_⟩, hh⟩
  · rw [E a (z _ rfl).1 (z _ rfl).2]; exact e
  · have na : a ≠ hd ∧ a ≠ c := by
      rcases e with e | ⟨ob, e⟩
      · exact ⟨ne_of e h2 (by intro z; cases z), ne_of e h1 (by intro z; cases z)⟩
      · exact ⟨ne_of e h2 (by intro z; cases z), ne_of e h1 (by intro z; cases z)⟩
    rcases e with e | ⟨ob, e⟩
    · exact .inl (by rw [E a na.1 na.2]; exact e)
    · exact .inr ⟨ob, by rw [E a na.1 na.2]; exact e⟩
  · cases e; exact hh
theorem mem_cutV {xs : List V} {lo hi : Option Int} {v : V} (h : v ∈ cutV xs lo hi) : v ∈ xs := by
  unfold cutV at h
  exact List.mem_of_mem_drop (List.mem_of_mem_take h)
theorem ints_of {xs : List V} (h : ∀ v ∈ xs, ∃ n : Int, v = .int n) : ∃ ns : List Int, xs = ns.map V.int := by
  induction xs with
  | nil => exact ⟨[], rfl⟩
  | cons x xs ih =>
    obtain ⟨n, rfl⟩ := h x List.mem_cons_self
    obtain ⟨ns, rfl⟩ := ih fun v hv => h v (List.mem_cons_of_mem _ hv)
    exact ⟨n :: ns, rfl⟩
/-! new objects, told by what they leave -/
theorem CallR.weak {X : Cx} {f : Value} {r r' : List V → Hp → VK → Prop} (h : CallR X f r) (w : ∀ xs H Q, r' xs H Q → r xs H Q) : CallR X f r' := fun pins s σ H xs us Q I rv q => h pins s σ H xs us Q I rv (w xs H Q q)
theorem OpR.weak {X : Cx} {f : Value → Value → Sem Value} {r r' : R2} (h : OpR X f r) (w : ∀ x y H Q, r' x y H Q → r x y H Q) : OpR X f r' := fun pins s σ H x y v u Q I r1 r2 q => h pins s σ H x y v u Q I r1 r2 (w x y H Q q)
theorem SlR.weak {X : Cx} {r r' : V → Option Int → Option Int → Hp → VK → Prop} (h : SlR X r) (w : ∀ x l u H Q, r' x l u H Q → r x l u H Q) : SlR X r' := fun pins s σ H x v vl vu lo hi sl Q I r1 hs pl pu q => h pins s σ H x v vl vu lo hi sl Q I r1 hs pl pu (w x lo hi H Q q)
/-- for each new object u at p: F p H2 -/
def New (H : Hp) (u : HO) (F : Addr → Hp → Prop) : Prop := ∀ p H2, H p = none → (∀ o, G o H H2) → H2 p = some u → F p H2
theorem New.go {H : Hp} {u : HO} {F : Addr → Hp → Prop} (h : New H u F) {p : Addr} (hp : H p = none) : F p (upd H p u) := h p _ hp (fun _ => G.alloc hp) upd_same
def tTupN (t : TA) : TE := fun σ H Q => t σ H fun xs H1 => xs.length ≤ sizeLine ∧ New H1 (.tup xs) fun p H2 => Q (.ref p) H2
def tLstN (t : TA) : TE := fun σ H Q => t σ H fun xs H1 => xs.length ≤ sizeLine ∧ New H1 (.lst xs) fun p H2 => Q (.ref p) H2
section
variable {X : Cx} {es : List Expr} {t : TA} {pos : Pos}
theorem pe_tupN {x1} (h : PA X es t) : PE X (.Tuple es x1 pos) (tTupN t) := by
  have h' : PA X es (fun σ H QA => t σ H QA) := h
  refine ⟨fun pins s σ H Q I q => ?_⟩
  have hm : PA X es (fun σ H QA => t σ H (fun xs H1 => xs.length ≤ sizeLine ∧ New H1 (.tup xs) fun p H2 => Q (.ref p) H2) ∧ ∀ xs H1, (xs.length ≤ sizeLine ∧ New H1 (.tup xs) fun p H2 => Q (.ref p) H2) → QA xs H1) :=
    ⟨fun pos pins s σ H QA I q => wpAny_mono (h.run pos pins s σ H _ I q.1) (fun us s1 ⟨vs, H1, I1, r, z⟩ => ⟨vs, H1, I1, r, q.2 vs H1 z⟩) fun _ _ z => z⟩
  exact (pe_tup hm).run pins s σ H Q I ⟨q, fun xs H1 z => ⟨z.1, fun p hp => z.2.go hp⟩⟩
theorem pe_lstN (h : PA X es t) : PE X (.List es pos) (tLstN t) := by
  refine ⟨fun pins s σ H Q I q => ?_⟩
  have hm : PA X es (fun σ H QA => t σ H (fun xs H1 => xs.length ≤ sizeLine ∧ New H1 (.lst xs) fun p H2 => Q (.ref p) H2) ∧ ∀ xs H1, (xs.length ≤ sizeLine ∧ New H1 (.lst xs) fun p H2 => Q (.ref p) H2) → QA xs H1) :=
    ⟨fun pos pins s σ H QA I q => wpAny_mono (h.run pos pins s σ H _ I q.1) (fun us s1 ⟨vs, H1, I1, r, z⟩ => ⟨vs, H1, I1, r, q.2 vs H1 z⟩) fun _ _ z => z⟩
  exact (pe_lst hm).run pins s σ H Q I ⟨q, fun xs H1 z => ⟨z.1, fun p hp => z.2.go hp⟩⟩
end
/-- tuple(a list): a new tuple; tuple(a tuple): itself -/
def rTupleN (K : PySem.W.Frag) : List V → Hp → VK → Prop := fun xs H Q => ∃ p ys, xs = [.ref p] ∧ ((SqL K H p ys ∧ New H (.tup ys) fun l H2 => Q (.ref l) H2) ∨ (SqT K H p ys ∧ Q (.ref p) H))
theorem call_tupleN {X : Cx} : CallR X (.type "tuple") (rTupleN X.K) := CallR.weak call_tuple_of fun xs H Q h => by
  obtain ⟨p, ys, e, h | h⟩ := h
  · exact ⟨p, ys, e, .inl ⟨h.1, fun l hl => h.2.go hl⟩⟩
  · exact ⟨p, ys, e, .inr h⟩
def rListN (K : PySem.W.Frag) : List V → Hp → VK → Prop := fun xs H Q => ∃ p ys, xs = [.ref p] ∧ (SqL K H p ys ∨ SqT K H p ys) ∧ New H (.lst ys) fun l H2 => Q (.ref l) H2
theorem call_listN {X : Cx} : CallR X (.type "list") (rListN X.K) := CallR.weak call_list_of fun xs H Q h => by
  obtain ⟨p, ys, e, h, q⟩ := h
  exact ⟨p, ys, e, h, fun l hl => q.go hl⟩
theorem w_tupN {σ : L2.St} {H : Hp} {Q : VK} {tr : TA} (q : tr σ H fun xs H1 => xs.length ≤ sizeLine ∧ New H1 (.tup xs) fun p H2 => Q (.ref p) H2) : tTupN tr σ H Q := q
theorem w_lstN {σ : L2.St} {H : Hp} {Q : VK} {tr : TA} (q : tr σ H fun xs H1 => xs.length ≤ sizeLine ∧ New H1 (.lst xs) fun p H2 => Q (.ref p) H2) : tLstN tr σ H Q := q
/-- for up to so many items -/
theorem sz {n : Nat} (h : n ≤ 100000) : n ≤ sizeLine := Nat.le_trans h (by decide)
theorem filterMap_range_map {α β : Type} (l : List α) (f : α → β) : (List.range l.length).filterMap (fun i => (l[i]?).map f) = l.map f := by
  induction l with
  | nil => rfl
  | cons a l ih =>
    rw [List.length_cons, List.range_succ_eq_map, List.filterMap_cons, List.filterMap_map]
    simp only [List.getElem?_cons_zero, Option.map_some, List.map_cons]
    congr 1
theorem filterMap_range_fm {α β : Type} (l : List α) (f : α → Option β) : (List.range l.length).filterMap (fun i => (l[i]?).bind f) = l.filterMap f := by
  induction l with
  | nil => rfl
  | cons a l ih =>
    rw [List.length_cons, List.range_succ_eq_map, List.filterMap_cons, List.filterMap_map, List.filterMap_cons]
    simp only [List.getElem?_cons_zero, Option.bind_some]
    cases f a with
    | none => exact ih
    | some b => simp only []; congr 1
section
variable {K : PySem.W.Frag} {σ : L2.St} {H : Hp} {Q : VK} {D : Ends}
theorem w_lc {wi : TI} {g : TG} {tt : TT} {te : TE} {vs : List Nat} (q : wi σ H fun J H1 => ∀ D, H1 D = none → ∃ W : Nat → Nat → Hp → Prop, (∃ m, W 0 m (upd H1 D (.lst []))) ∧ ∀ i m H, W i m H →
  (J.stop i H ∧ Q (.ref D) H) ∨ (J.go i H ∧ ∃ Nx : Hp → Prop, (∀ H', Nx H' → ∃ m', m' < m ∧ W (i + 1) m' H') ∧ ∀ x H', J.yld i H x H' → g x (wipe σ vs) H' fun σ2 H2 => wipe σ2 vs = wipe σ vs ∧ tt σ2 H2 fun b H3 =>
    if b = true then te σ2 H3 fun y H4 => ∃ acc, H4 D = some (.lst acc) ∧ acc.length < sizeLine ∧ Nx (upd H4 D (.lst (acc ++ [y]))) else Nx H3)) : tLc wi g tt te vs σ H Q := q
theorem w_nt {A B : Prop} (q : B) : if (!true) = true then A else B := q
theorem w_nf {A B : Prop} (q : A) : if (!false) = true then A else B := q
theorem w_iteE {b : Bool} {A B : Prop} (e : b = true) (q : A) : if b = true then A else B := by rw [if_pos e]; exact q
theorem w_iteN {b : Bool} {A B : Prop} (e : b = false) (q : B) : if b = true then A else B := by rw [e]; exact q
theorem w_isN {te : TE} (q : te σ H fun x H1 => Q (.bl (decide (x = .non))) H1) : tIsN te σ H Q := q
theorem w_notN {te : TE} (q : te σ H fun x H1 => Q (.bl (!decide (x = .non))) H1) : tNotN te σ H Q := q
theorem w_seqM {ts tu : TS} (M : L2.St → Hp → Prop) (h1 : ∀ N : L2.St → Hp → Prop, (∀ σ' H', M σ' H' → N σ' H') → ts { D with nx := N } σ H) (h2 : ∀ σ' H', M σ' H' → tu D σ' H') : tSeq ts tu D σ H := h1 _ h2
theorem w_make {C : Addr} {sp : Sp} {E : XK} {tr : TA} (q : tr σ H fun vs H1 => ∀ x dx, H1 x = none → H1 dx = none → dx ≠ x → sp (.ref x :: (vs ++ [])) (upd (upd H1 dx (.own x)) x (.ins C dx [])) (fun v H2 => v = .non ∧ Q (.ref x) H2) E) : tMake C sp [] E tr σ H Q := q
theorem w_yes {QB : Bool → Hp → Prop} (q : QB true H) : tYes σ H QB := q
theorem w_for {wi : TI} {g : TG} {tb : TS} (q : wi σ H fun J H1 => ∃ W : Nat → Nat → L2.St → Hp → Prop, (∃ m, W 0 m σ H1) ∧ ∀ i m σ H, W i m σ H →
  (J.stop i H ∧ D.nx σ H) ∨ (J.go i H ∧ ∃ N : L2.St → Hp → Prop, (∀ σ' H', N σ' H' → ∃ m', m' < m ∧ W (i + 1) m' σ' H') ∧ ∀ x H', J.yld i H x H' → g x σ H' fun σ2 H2 => tb { D with nx := N, ct := N, bk := D.nx } σ2 H2)) : tFor wi g tb D σ H := q
variable {R : It → Hp → Prop} {ta : TA} {te : TE}
theorem w_rng1 (q : ta σ H fun vs H1 => ∃ j : Int, vs = [.int j] ∧ -(2 ^ 62) ≤ j ∧ j < 2 ^ 62 ∧ R (Itr 0 j.toNat) H1) : iRng1 ta σ H R := q
theorem w_rng2 (q : ta σ H fun vs H1 => ∃ i j : Int, vs = [.int i, .int j] ∧ (-(2 ^ 62) ≤ i ∧ i < 2 ^ 62 ∧ -(2 ^ 62) ≤ j ∧ j < 2 ^ 62) ∧ R (Itr i (j - i).toNat) H1) : iRng2 ta σ H R := q
theorem w_itup (q : te σ H fun x H1 => ∃ a, x = .ref a ∧ (∃ xs, SqT K H1 a xs) ∧ R (Itt K a) H1) : iTup K te σ H R := q
theorem w_ilist (q : te σ H fun x H1 => ∃ a, x = .ref a ∧ (∃ xs, SqL K H1 a xs) ∧ R (Itl K a) H1) : iList K te σ H R := q
theorem w_ienum (q : ta σ H fun vs H1 => ∃ a xs, vs = [.ref a] ∧ SqT K H1 a xs ∧ R (IteT K a) H1) : iEnumT K ta σ H R := q
theorem w_izip (q : ta σ H fun vs H1 => ∃ a b xs ys, vs = [.ref a, .ref b] ∧ ((SqL K H1 a xs ∧ SqL K H1 b ys ∧ R (Itz K a b) H1) ∨ (SqT K H1 a xs ∧ SqT K H1 b ys ∧ R (RZ.ItzT K a b) H1))) : RZ.iZipA K ta σ H R := q
theorem w_BM {T : String} {r : V → List V → Hp → VK → Prop} {to : TE} (q : to σ H fun x H1 => tyV K T x H1 ∧ ta σ H1 fun xs H2 => r x xs H2 Q) : tBM K T r to ta σ H Q := q
theorem w_BM0 {T : String} {r : V → List V → Hp → VK → Prop} {to : TE} (q : to σ H fun x H1 => tyV K T x H1 ∧ r x [] H1 Q) : tBM0 K T r to σ H Q := q
theorem i_BM {l : Addr} {xs : List V} {F : Prop} (h : H l = some (.lst xs)) (q : F) : tyV K "list" (.ref l) H ∧ F := ⟨.inl ⟨rfl, _, SqL.of h⟩, q⟩
theorem r_app {l : Addr} {xs : List V} {y : V} (h : H l = some (.lst xs)) (hz : xs.length ≤ 90000) (q : Q .non (upd H l (.lst (xs ++ [y])))) : rAppend (.ref l) [y] H Q := ⟨l, xs, y, rfl, rfl, h, Nat.lt_of_le_of_lt hz (by decide), q⟩
theorem i_rng1 {F : Int → Prop} {j : Int} (h1 : 0 ≤ j) (h2 : j ≤ 100000) (q : F j) : ∃ k : Int, [V.int j] = [.int k] ∧ -(2 ^ 62) ≤ k ∧ k < 2 ^ 62 ∧ F k := ⟨j, rfl, by omega, by omega, q⟩
theorem i_tup {F : Addr → Prop} {a : Addr} {xs : List V} (h : SqT K H a xs) (q : F a) : ∃ b, V.ref a = .ref b ∧ (∃ xs, SqT K H b xs) ∧ F b := ⟨a, rfl, ⟨xs, h⟩, q⟩
theorem i_list {F : Addr → Prop} {a : Addr} {xs : List V} (h : SqL K H a xs) (q : F a) : ∃ b, V.ref a = .ref b ∧ (∃ xs, SqL K H b xs) ∧ F b := ⟨a, rfl, ⟨xs, h⟩, q⟩
theorem i_enum {F : Addr → Prop} {a : Addr} {xs : List V} (h : SqT K H a xs) (q : F a) : ∃ (b : Addr) (ys : List V), [V.ref a] = [.ref b] ∧ SqT K H b ys ∧ F b := ⟨a, xs, rfl, h, q⟩
end
end GA
/-! ## GD -/
namespace GA
open PySem L2
/-! ### data within data -/
theorem canAll {ds : List PyData} (h : ∀ d ∈ ds, d.canLay0 = true) : PyData.canLayAll0 ds = true := by
  induction ds with
  | nil => rfl
  | cons d ds ih => rw [PyData.canLayAll0, h d List.mem_cons_self, ih fun e he => h e (List.mem_cons_of_mem _ he)]; rfl
theorem depAll {n : Nat} {ds : List PyData} (h : ∀ d ∈ ds, d.depth ≤ n) : PyData.depthAll ds ≤ n := by
  induction ds with
  | nil => rw [PyData.depthAll]; exact Nat.zero_le _
  | cons d ds ih =>
    rw [PyData.depthAll]
    have h1 := h d List.mem_cons_self
    have h2 := ih fun e he => h e (List.mem_cons_of_mem _ he)
    omega
/-! the rules with the written part told: for a comprehension's block -/
section
variable {X : Cx}
theorem k_ix_tup (K : PySem.W.Frag) (hK : X.K = K := by rfl) : IxR X (rIxT K) := by subst hK; exact ix_tup
theorem k_ix_list (K : PySem.W.Frag) (hK : X.K = K := by rfl) : IxR X (rIxL K) := by subst hK; exact ix_list
end
end GA
/-! ## GE -/
namespace PyProof.Rows
open PySem
section
variable {prog : Program} {w : World} {A : Around} {E : Value → Shared → Prop} {s : Shared}
end
end PyProof.Rows
namespace SrtO
open PySem PyProof.Rows Srt
section
variable {prog : Program} {w : World} {A : Around} {E : Value → Shared → Prop} {s : Shared}
end
end SrtO
namespace GA
open PySem PySem.Spec PyProof.Rows L2
section
variable {K : PySem.W.Frag} {σ : L2.St} {H : Hp} {Q : VK}
end
end GA
/-! ## GF -/
namespace GA
open PySem PySem.Spec PyProof.Rows L2
section
variable {K : PySem.W.Frag} {H : Hp}
end
section
variable {X : Cx}
end
end GA
/-! ## GG -/
namespace PySem.W
open PySem PySem.Spec PySem.Calls PyProof.Rows
open Builtin
section
variable {prog : Program} {w : World} {A : Around} {E : Value → Shared → Prop} {K : Frag} {x C L f : Addr} {h₀ hh : Heap} {g : Array GenState} {d : Drawn} {t : Nat} {os : OsState} {m : Str → Option Value} {ox : Obj} {od : Option Obj} {b tb : Value}
end
end PySem.W
namespace GA
open PySem PySem.Spec PyProof.Rows L2
section
variable {X : Cx} {n : Nat}
end
end GA
/-! ## GH -/
namespace L2
open PySem PySem.Spec PyProof.Rows
section
variable {P : Program} {w : World} {A : Around} {E : Value → Shared → Prop} {s : Shared}
end
end L2
/-! ## GI -/
namespace GA
open PySem PySem.Spec PyProof.Rows L2
/-! ### a list of pairs being filled -/
def Fil (K : PySem.W.Frag) (o : Option (Addr × Addr)) (H0 H : Hp) (D : Addr) (us : List (Int × Int)) : Prop := G o H0 H ∧ ∃ xs, H D = some (.lst xs) ∧ DpAll K H xs (us.map dP)
section
variable {K : PySem.W.Frag} {o : Option (Addr × Addr)} {H0 H H1 H' : Hp} {D : Addr} {us : List (Int × Int)}
theorem Fil.nil (g : G o H0 H1) (h0 : H0 D = none) (hh : ∀ p, o = some p → Hand H0 p.1 p.2) : Fil K o H0 (upd H1 D (.lst [])) D [] := ⟨g.mut h0 hh, [], upd_same, .nil⟩
theorem Fil.g (f : Fil K o H0 H D us) (g : G o H H') (off : Off o D) : Fil K o H0 H' D us := by
  obtain ⟨g0, xs, h1, h2⟩ := f
  exact ⟨g0.trans g, xs, g.keep _ _ off h1, dpAll_t g.tups _ _ (nls_pairs us) h2⟩
theorem Fil.app (f : Fil K o H0 H D us) (h0 : H0 D = none) (hh : ∀ p, o = some p → Hand H0 p.1 p.2) {v : V} {u : Int × Int} (hv : Dp K H v (dP u)) (hz : us.length ≤ 90000) :
    ∃ acc, H D = some (.lst acc) ∧ acc.length < sizeLine ∧ Fil K o H0 (upd H D (.lst (acc ++ [v]))) D (us ++ [u]) := by
  obtain ⟨g0, xs, h1, h2⟩ := f
  have t : Ts H (upd H D (.lst (xs ++ [v]))) := Ts.updl h1
  have l2 := DpAll.length h2
  rw [List.length_map] at l2
  refine ⟨xs, h1, Nat.lt_of_le_of_lt (by omega : xs.length ≤ 90000) (by decide), g0.mut h0 hh, _, upd_same, ?_⟩
  rw [List.map_append]
  exact DpAll.app (dpAll_t t _ _ (nls_pairs us) h2) (DpAll.one (dp_t t _ _ (nl_dP u) hv))
end
/-! ### two for -/
section
variable {J J1 : It} {n n1 : Nat} {Gd G1 : Hp → Prop} {Y Y1 : Nat → Hp → V → Hp → Prop} {g g1 : TG} {tt tt1 : TT} {te : TE} {wi1 : TI} {vs vs1 : List Nat} {σ σ2 : L2.St} {H1 H4 : Hp} {D : Addr} {Qd Nx : Hp → Prop}
theorem w_lc2 {wi : TI} {Q : VK} (q : wi σ H1 fun J H1 => ∀ D, H1 D = none → ∃ W : Nat → Nat → Hp → Prop, (∃ m, W 0 m (upd H1 D (.lst []))) ∧ ∀ i m H, W i m H →
  (J.stop i H ∧ Q (.ref D) H) ∨ (J.go i H ∧ ∃ Nx : Hp → Prop, (∀ H', Nx H' → ∃ m', m' < m ∧ W (i + 1) m' H') ∧ ∀ x H', J.yld i H x H' → g x (wipe σ vs) H' fun σ2 H2 => wipe σ2 vs = wipe σ vs ∧ tt σ2 H2 fun b H3 =>
    if b = true then wi1 σ2 H3 fun J1 H4 => ∃ W1 : Nat → Nat → Hp → Prop, (∃ m, W1 0 m H4) ∧ ∀ j k H, W1 j k H →
      (J1.stop j H ∧ Nx H) ∨ (J1.go j H ∧ ∃ Nx1 : Hp → Prop, (∀ H', Nx1 H' → ∃ k', k' < k ∧ W1 (j + 1) k' H') ∧ ∀ x H', J1.yld j H x H' → g1 x (wipe σ2 vs1) H' fun σ3 H5 => wipe σ3 vs1 = wipe σ2 vs1 ∧ tt1 σ3 H5 fun b H6 =>
        if b = true then te σ3 H6 fun y H7 => ∃ acc, H7 D = some (.lst acc) ∧ acc.length < sizeLine ∧ Nx1 (upd H7 D (.lst (acc ++ [y]))) else Nx1 H6)
    else Nx H3)) : tLc2 wi g tt wi1 g1 tt1 te vs vs1 σ H1 Q := q
end
/-! ### a list or a tuple -/
def iSeq (K : PySem.W.Frag) (te : TE) : TI := fun σ H R => te σ H fun x H1 => ∃ a, x = .ref a ∧ (((∃ xs, SqL K H1 a xs) ∧ R (Itl K a) H1) ∨ ((∃ xs, SqT K H1 a xs) ∧ R (Itt K a) H1))
section
variable {X : Cx}
theorem w_iseq {K : PySem.W.Frag} {te : TE} {σ : L2.St} {H : Hp} {R : It → Hp → Prop} (q : te σ H fun x H1 => ∃ a, x = .ref a ∧ (((∃ xs, SqL K H1 a xs) ∧ R (Itl K a) H1) ∨ ((∃ xs, SqT K H1 a xs) ∧ R (Itt K a) H1))) : iSeq K te σ H R := q
/-- xs + ys, lists -/
def rCatLN : R2 := fun x y H Q => ∃ l b xs zs, x = .ref l ∧ y = .ref b ∧ H l = some (.lst xs) ∧ H b = some (.lst zs) ∧ xs.length + zs.length ≤ 100000 ∧ New H (.lst (xs ++ zs)) fun p H2 => Q (.ref p) H2
theorem op_catLN : OpR X (binaryOp .Add) rCatLN := OpR.weak op_cat fun x y H Q h => by
  obtain ⟨l, b, xs, zs, e1, e2, h1, h2, hz, q⟩ := h
  exact ⟨l, b, xs, zs, e1, e2, h1, h2, sz hz, fun p hp => q.go hp⟩
end
end GA
/-! ## GJ -/
namespace GA
open PySem PySem.Spec PyProof.Rows L2
/-! ### dict(pairs) whose keys are tuples -/
/-- one pair (key, value): where the pair's tuple stands, the key, where the key stands, the value -/
structure DPair where
  at_ : Addr
  key : List L2.Key
  kat : Addr
  val : V
section
variable {X : Cx}
end
end GA
/-! ## GK -/
namespace GA
open PySem PySem.Spec PyProof.Rows L2
section
variable {X : Cx}
end
end GA
/-! ## GL -/
namespace GA
open PySem L2
/-! ### methods of tuples; tuples whose object is known -/
section
variable {X : Cx} {T : String} {name : Str} {id : String} {r : V → List V → Hp → VK → Prop} {o e : Expr} {es : List Expr} {apos cpos : Pos} {to : TE} {t : TA}
/-- a tuple whose object is known: it has no names of its own -/
def FrzT (H : Hp) (p : Addr) (xs : List V) : Prop := ∃ ob : Obj, H p = some (.frz ob (.tup xs)) ∧ ob.dict = none
theorem FrzT.n {H H' : Hp} {p : Addr} {xs : List V} (h : FrzT H p xs) (g : G none H H') : FrzT H' p xs := by
  obtain ⟨ob, h, d⟩ := h
  exact ⟨ob, g.all _ _ h, d⟩
end
end GA
/-! ## GM -/
/-! tuples compared item by item, where an item's own == may run -/
namespace GQB
open PySem PySem.SeqAt GQ
open AutoSeq1 (wpAny_loadPart')
open MeetsSeq MeetsSeq2 MeetsSeq3 SeqRoads2
section
variable {prog : Program} {w : World} {A : Around} {R : Result → Shared → Prop}
theorem tuple_eqB (l b : Addr) (items items2 : Array Value) (n n2 : Nat) (dd dd2 : Option Addr) (sl sl2 : Array (Option Value)) (e : Nat → Bool) (I : Shared → Prop)
    (turn : ∀ i (h1 : i < items.size) (h2 : i < items2.size) s, I s → wpAny (model prog w) A.in1 (eqBool items[i] items2[i]) (fun r s' => r = e i ∧ I s') (fun e s' => R (.error e) s') s)
    (fin : ∀ s, I s → R (.ok (.ret (.bool ((List.range (min items.size items2.size)).all e && items.size == items2.size)))) s) {s : Shared} (hl1 : s.heap.get? l = some { cls := .type "tuple", dict := dd, data := .seq items n, slots := sl }) (hb1 : s.heap.get? b = some { cls := .type "tuple", dict := dd2, data := .seq items2 n2, slots := sl2 }) (h : I s) :
    wpAny (model prog w) A.in1 (Builtin.«tuple.__eq__» ⟨[.ref l, .ref b], []⟩) (FinOf prog w A R) (fun e s' => R (.error e) s') s := by
  have f2 := AutoSeq1.sub_tuple_tuple
  have hZ : (items.toList.zip items2.toList).length = min items.size items2.size := by simp
  have h0 := h
  obtain ⟨hp, g, d, tk, os⟩ := s
  wp_walk using wpAny_loadPart' hl1, wpAny_loadPart' hb1, wpAny_forIn_list _ (fun rest b s' => b.1 = none ∧ ∃ i, rest = (items.toList.zip items2.toList).drop i ∧ (∀ j, j < i → e j = true) ∧ I s') _
  case turn =>
    rintro ⟨y, x⟩ rest b s' ⟨hb', i, hz, hi, hI⟩
    have hlt : i < (items.toList.zip items2.toList).length := by
      rcases Nat.lt_or_ge i (items.toList.zip items2.toList).length with h' | h'
      · exact h'
      · rw [List.drop_of_length_le h'] at hz; cases hz
    have hm : i < min items.size items2.size := hZ ▸ hlt
    have h1 : i < items.size := Nat.lt_of_lt_of_le hm (Nat.min_le_left _ _)
    have h2 : i < items2.size := Nat.lt_of_lt_of_le hm (Nat.min_le_right _ _)
    rw [List.drop_eq_getElem_cons hlt] at hz
    injection hz with hyx hrest
    have hy : y = items[i] := by have := congrArg Prod.fst hyx; simpa using this
    have hx : x = items2[i] := by have := congrArg Prod.snd hyx; simpa using this
    subst hy hx
    refine wpAny_bind (wpAny_mono (turn i h1 h2 s' hI) (fun r s2 q2 => ?_) fun _ _ x => x)
    obtain ⟨hr, q2⟩ := q2
    subst hr
    cases hei : e i with
    | true =>
      wp_walk
      refine ⟨rfl, i + 1, hrest, fun j hj => ?_, q2⟩
      rcases Nat.lt_succ_iff_lt_or_eq.mp hj with z | z
      · exact hi j z
      · rw [z]; exact hei
    | false =>
      have al : (List.range (min items.size items2.size)).all e = false := by
        rw [Bool.eq_false_iff]
        intro z
        have := List.all_eq_true.mp z i (List.mem_range.mpr hm)
        rw [hei] at this; cases this
      have hR := fin s2 q2
      rw [al, Bool.false_and] at hR
      wp_walk
      simpa using hR
  case fin =>
    rintro ⟨b1, b2⟩ s' ⟨hb', i, hz, hi, hI⟩
    simp only at hb'
    subst hb'
    have hge : min items.size items2.size ≤ i := by
      rcases Nat.lt_or_ge i (items.toList.zip items2.toList).length with h' | h'
      · rw [List.drop_eq_getElem_cons h'] at hz; cases hz
      · exact hZ ▸ h'
    have al : (List.range (min items.size items2.size)).all e = true := List.all_eq_true.mpr fun j hj => hi j (Nat.lt_of_lt_of_le (List.mem_range.mp hj) hge)
    have hR := fin s' hI
    rw [al, Bool.true_and] at hR
    wp_walk
    simpa [Builtin.Tuple.tupleCompareSizes] using hR
  case h =>
    exact ⟨rfl, 0, rfl, (fun _ h => absurd h (Nat.not_lt_zero _)), h0⟩
end
section
variable {prog : Program} {w : World} {A : Around} {E : Value → Shared → Prop} {s : Shared}
theorem rc_tupB {l b : Addr} {items items2 : Array Value} {Q : Value → Shared → Prop} (hu : A.units < cLine) (e : Nat → Bool) (I : Shared → Prop)
    (hl : s.heap.IsTuple l items) (hb : s.heap.IsTuple b items2)
    (turn : ∀ i (h1 : i < items.size) (h2 : i < items2.size) s, I s → wpAny (model prog w) A.in1 (eqBool items[i] items2[i]) (fun r s' => r = e i ∧ I s') E s)
    (fin : ∀ s, I s → Q (.bool ((List.range (min items.size items2.size)).all e && items.size == items2.size)) s) (h : I s) : wpAny (model prog w) A (richCompare .Eq (.ref l) (.ref b)) Q E s := by
  obtain ⟨⟨cls, dd, data, sl⟩, ho, hc, n, hd⟩ := id hl
  obtain ⟨⟨cls2, dd2, data2, sl2⟩, ho2, hc2, n2, hd2⟩ := id hb
  simp only at hc hd hc2 hd2
  subst hc hd hc2 hd2
  refine wpAny_richCompare_same_room (op := .Eq) ⟨_, ho, rfl⟩ ⟨_, ho2, rfl⟩ F.slot_tuple_eq (call_here F.slot_tuple_eq ⟨_, ho, rfl⟩ F.entry_tuple_eq (F.args_tuple_eq_2 _ _) ?_) hu
  exact tuple_eqB (R := wants (fun v s' => v ≠ .notImplemented ∧ Q v s') E) l b items items2 n n2 dd dd2 sl sl2 e I turn (fun s' q => ⟨(fun x => nomatch x), fin s' q⟩) ho ho2 h
end
end GQB
/-! ## GN -/
namespace GA
open PySem PySem.Spec PyProof.Rows L2
/-! ### any thing, as far as it is looked at -/
inductive Tg where
  | non
  | bl (b : Bool)
  | int (i : Int)
  | str (s : Str)
  | tup (ts : List Tg)
  | oth
/-- an object that is neither a tuple nor flat: a list, a dict, an instance of the class at C -/
def Oth (C : Addr) (H : Hp) (a : Addr) : Prop := (∃ xs, H a = some (.lst xs)) ∨ (∃ kvs, H a = some (.dK kvs)) ∨ ∃ dx fs, H a = some (.ins C dx fs)
mutual
inductive Ab (C : Addr) (hd : Addr × Addr) (H : Hp) : V → Tg → Prop
  | non : Ab C hd H .non .non
  | bl (b : Bool) : Ab C hd H (.bl b) (.bl b)
  | int (i : Int) : Ab C hd H (.int i) (.int i)
  | str (x : Str) : Ab C hd H (.str x) (.str x)
  | tup {a : Addr} {xs : List V} {ts : List Tg} : Rd H a (.tup xs) → AbAll C hd H xs ts → Ab C hd H (.ref a) (.tup ts)
  | oth {a : Addr} : (a ≠ hd.1 ∧ a ≠ hd.2) → Oth C H a → Ab C hd H (.ref a) .oth
inductive AbAll (C : Addr) (hd : Addr × Addr) (H : Hp) : List V → List Tg → Prop
  | nil : AbAll C hd H [] []
  | cons {v : V} {vs : List V} {t : Tg} {ts : List Tg} : Ab C hd H v t → AbAll C hd H vs ts → AbAll C hd H (v :: vs) (t :: ts)
end
theorem Oth.k {C : Addr} {H H' : Hp} {a : Addr} (h : Oth C H a) (k : ∀ u, H a = some u → H' a = some u) : Oth C H' a := by
  rcases h with ⟨xs, h⟩ | ⟨kvs, h⟩ | ⟨dx, fs, h⟩
  · exact .inl ⟨xs, k _ h⟩
  · exact .inr (.inl ⟨kvs, k _ h⟩)
  · exact .inr (.inr ⟨dx, fs, k _ h⟩)
mutual
theorem Ab.k {C : Addr} {hd : Addr × Addr} {H H' : Hp} (t : Ts H H') (k : ∀ a u, (a ≠ hd.1 ∧ a ≠ hd.2) → H a = some u → H' a = some u) : ∀ (g : Tg) (v : V), Ab C hd H v g → Ab C hd H' v g
  | .non, _, h => by cases h; exact .non
  | .bl b, _, h => by cases h; exact .bl b
  | .int b, _, h => by cases h; exact .int b
  | .str b, _, h => by cases h; exact .str b
  | .oth, _, h => by
    cases h with
    | oth n o => exact .oth n (o.k fun u e => k _ u n e)
  | .tup ts, _, h => by
    cases h with
    | tup r a => exact .tup (t _ _ r) (AbAll.k t k ts _ a)
theorem AbAll.k {C : Addr} {hd : Addr × Addr} {H H' : Hp} (t : Ts H H') (k : ∀ a u, (a ≠ hd.1 ∧ a ≠ hd.2) → H a = some u → H' a = some u) : ∀ (gs : List Tg) (vs : List V), AbAll C hd H vs gs → AbAll C hd H' vs gs
  | [], _, h => by cases h; exact .nil
  | g :: gs, _, h => by
    cases h with
    | cons h1 h2 => exact .cons (Ab.k t k g _ h1) (AbAll.k t k gs _ h2)
end
/-- whatever may change is the hand alone -/
def OH (o : Option (Addr × Addr)) (hd : Addr × Addr) : Prop := ∀ p, o = some p → p = hd
theorem OH.n {hd : Addr × Addr} : OH none hd := fun _ e => nomatch e
theorem OH.s {hd c : Addr} : OH (some (hd, c)) (hd, c) := fun _ e => by cases e; rfl
section
variable {C : Addr} {hd : Addr × Addr} {H H' : Hp} {o : Option (Addr × Addr)}
theorem Ab.g {v : V} {t : Tg} (h : Ab C hd H v t) (g : G o H H') (oh : OH o hd) : Ab C hd H' v t := h.k g.tups (fun a u n e => g.keep a u (fun p ep => by rw [oh p ep]; exact n) e) t v
theorem AbAll.g {vs : List V} {ts : List Tg} (h : AbAll C hd H vs ts) (g : G o H H') (oh : OH o hd) : AbAll C hd H' vs ts := h.k g.tups (fun a u n e => g.keep a u (fun p ep => by rw [oh p ep]; exact n) e) ts vs
theorem Ab.n {v : V} {t : Tg} (h : Ab C hd H v t) (g : G none H H') : Ab C hd H' v t := h.g g OH.n
theorem AbAll.n {vs : List V} {ts : List Tg} (h : AbAll C hd H vs ts) (g : G none H H') : AbAll C hd H' vs ts := h.g g OH.n
theorem AbAll.length : ∀ {vs : List V} {ts : List Tg}, AbAll C hd H vs ts → vs.length = ts.length
  | _, _, .nil => rfl
  | _, _, .cons _ t => by simp [AbAll.length t]
theorem AbAll.get : ∀ {vs : List V} {ts : List Tg} {i : Nat} {v : V}, AbAll C hd H vs ts → vs[i]? = some v → ∃ t, ts[i]? = some t ∧ Ab C hd H v t
  | _, _, _, _, .nil, e => by simp at e
  | _, _, 0, _, .cons h _, e => by simp at e; subst e; exact ⟨_, rfl, h⟩
  | _, _, i + 1, v, .cons _ t, e => by
    obtain ⟨d, h1, h2⟩ := AbAll.get (i := i) (v := v) t (by simpa using e)
    exact ⟨d, by simpa using h1, h2⟩
theorem AbAll.get' : ∀ {vs : List V} {ts : List Tg} {i : Nat} {t : Tg}, AbAll C hd H vs ts → ts[i]? = some t → ∃ v, vs[i]? = some v ∧ Ab C hd H v t
  | _, _, _, _, .nil, e => by simp at e
  | _, _, 0, _, .cons h _, e => by simp at e; subst e; exact ⟨_, rfl, h⟩
  | _, _, i + 1, v, .cons _ t, e => by
    obtain ⟨d, h1, h2⟩ := AbAll.get' (i := i) (t := v) t (by simpa using e)
    exact ⟨d, by simpa using h1, h2⟩
theorem AbAll.app : ∀ {vs ws : List V} {ts us : List Tg}, AbAll C hd H vs ts → AbAll C hd H ws us → AbAll C hd H (vs ++ ws) (ts ++ us)
  | _, _, _, _, .nil, h => h
  | _, _, _, _, .cons h t, h' => .cons h (AbAll.app t h')
theorem AbAll.take : ∀ {vs : List V} {ts : List Tg} (n : Nat), AbAll C hd H vs ts → AbAll C hd H (vs.take n) (ts.take n)
  | _, _, 0, _ => by simp; exact .nil
  | _, _, n + 1, .nil => by simp; exact .nil
  | _, _, n + 1, .cons h t => by simp; exact .cons h (AbAll.take n t)
theorem AbAll.drop : ∀ {vs : List V} {ts : List Tg} (n : Nat), AbAll C hd H vs ts → AbAll C hd H (vs.drop n) (ts.drop n)
  | _, _, 0, h => h
  | _, _, n + 1, .nil => by simp; exact .nil
  | _, _, n + 1, .cons h t => by simp; exact AbAll.drop n t
theorem rd_one {a : Addr} {xs ys : List V} (h : Rd H a (.tup xs)) (h' : Rd H a (.tup ys)) : xs = ys := by
  rcases h with h | ⟨o, h⟩ <;> rcases h' with h' | ⟨o', h'⟩ <;> rw [h] at h' <;> cases h' <;> rfl
theorem rd_oth {a : Addr} {xs : List V} (h : Rd H a (.tup xs)) (h' : Oth C H a) : False := by
  rcases h with h | ⟨o, h⟩ <;> rcases h' with ⟨_, h'⟩ | ⟨_, h'⟩ | ⟨_, _, h'⟩ <;> rw [h] at h' <;> cases h'
mutual
theorem Ab.one : ∀ (g : Tg) (v : V) (g' : Tg), Ab C hd H v g → Ab C hd H v g' → g = g'
  | .non, _, _, h, h' => by cases h; cases h'; rfl
  | .bl b, _, _, h, h' => by cases h; cases h'; rfl
  | .int b, _, _, h, h' => by cases h; cases h'; rfl
  | .str b, _, _, h, h' => by cases h; cases h'; rfl
  | .oth, _, _, h, h' => by
    cases h with
    | oth n o =>
      cases h' with
      | oth _ _ => rfl
      | tup r _ => exact (rd_oth r o).elim
  | .tup ts, _, _, h, h' => by
    cases h with
    | tup r a =>
      cases h' with
      | oth _ o => exact (rd_oth r o).elim
      | tup r' a' =>
        obtain rfl := rd_one r r'
        rw [AbAll.one ts _ _ a a']
theorem AbAll.one : ∀ (gs : List Tg) (vs : List V) (gs' : List Tg), AbAll C hd H vs gs → AbAll C hd H vs gs' → gs = gs'
  | [], _, _, h, h' => by cases h; cases h'; rfl
  | g :: gs, _, _, h, h' => by
    cases h with
    | cons h1 h2 =>
      cases h' with
      | cons h1' h2' => rw [Ab.one g _ _ h1 h1', AbAll.one gs _ _ h2 h2']
end
end
/-! ### isinstance of them -/
structure InsK (K : PySem.W.Frag) (C : Addr) : Prop where
  ic : C8.InsC K C
  int : PySem.W.kitOne K (.ref C) (.type "int") = some false
  bool : PySem.W.kitOne K (.ref C) (.type "bool") = some false
  tuple : PySem.W.kitOne K (.ref C) (.type "tuple") = some false
  str : PySem.W.kitOne K (.ref C) (.type "str") = some false
def isT : String → Tg → Bool
  | "int", .int _ => true
  | "int", .bl _ => true
  | "bool", .bl _ => true
  | "str", .str _ => true
  | "tuple", .tup _ => true
  | _, _ => false
theorem ab_isi {K : PySem.W.Frag} {C : Addr} {hd : Addr × Addr} {H : Hp} {v : V} {t : Tg} {n : String} {Q : VK} (I : InsK K C) (h : Ab C hd H v t) (hn : n = "int" ∨ n = "bool" ∨ n = "str" ∨ n = "tuple") (q : Q (.bl (isT n t)) H) : rIsi K [v, .ty n] H Q := by
  have mk : ∀ (ty : Value) (b : Bool), TyX K H v ty → PySem.W.kitOne K ty (.type n) = some b → isT n t = b → rIsi K [v, .ty n] H Q := fun ty b h1 h2 h3 => ⟨v, .ty n, ty, .type n, b, rfl, .ty n, h1, h2, h3 ▸ q⟩
  cases h with
  | non => exact mk _ (isT n .non) (.base .non) (by rcases hn with rfl | rfl | rfl | rfl <;> exact kit_ty (by decide +kernel)) rfl
  | bl b => exact mk _ (isT n (.bl b)) (.base (.bl b)) (by rcases hn with rfl | rfl | rfl | rfl <;> exact kit_ty (by cases b <;> decide +kernel)) rfl
  | int i => exact mk _ (isT n (.int 0)) (.base (.int i)) (by rcases hn with rfl | rfl | rfl | rfl <;> exact kit_ty (by decide +kernel)) (by rcases hn with rfl | rfl | rfl | rfl <;> rfl)
  | str x => exact mk _ (isT n (.str "")) (.base (.str x)) (by rcases hn with rfl | rfl | rfl | rfl <;> exact kit_ty (by decide +kernel)) (by rcases hn with rfl | rfl | rfl | rfl <;> rfl)
  | @tup a xs ts r al =>
    have ty : TyX K H (.ref a) (.type "tuple") := by
      rcases r with r | ⟨o, r⟩
      · exact .base (.tup r)
      · exact .fTuple r
    exact mk _ (isT n (.tup [])) ty (by rcases hn with rfl | rfl | rfl | rfl <;> exact kit_ty (by decide +kernel)) (by rcases hn with rfl | rfl | rfl | rfl <;> rfl)
  | @oth a ne o =>
    rcases o with ⟨xs, o⟩ | ⟨kvs, o⟩ | ⟨dx, fs, o⟩
    · exact mk _ (isT n .oth) (.base (.lst o)) (by rcases hn with rfl | rfl | rfl | rfl <;> exact kit_ty (by decide +kernel)) rfl
    · exact mk _ (isT n .oth) (.base (.dK o)) (by rcases hn with rfl | rfl | rfl | rfl <;> exact kit_ty (by decide +kernel)) rfl
    · refine mk _ (isT n .oth) (.base (.ins o I.ic.cl I.ic.ha I.ic.hn I.ic.htk I.ic.hm)) ?_ rfl
      rcases hn with rfl | rfl | rfl | rfl
      · exact I.int
      · exact I.bool
      · exact I.str
      · exact I.tuple
/-! ### t >= u, tuples of ints -/
/-! ### tuples told by what they hold -/
def rCatR : R2 := fun x y H Q => ∃ a b xs ys, x = .ref a ∧ y = .ref b ∧ Rd H a (.tup xs) ∧ Rd H b (.tup ys) ∧ xs.length + ys.length ≤ 100000 ∧ ∀ p H2, (∀ o, G o H H2) → Rd H2 p (.tup (xs ++ ys)) → Q (.ref p) H2
theorem op_catR {X : Cx} : OpR X (binaryOp .Add) rCatR := OpR.weak op_catA fun x y H Q h => by
  obtain ⟨a, b, xs, ys, e1, e2, h1, h2, hz, q⟩ := h
  refine ⟨a, b, xs, ys, e1, e2, .inl h1, .inl h2, sz hz, fun e => ?_, fun _ e => ?_, fun _ _ p hp => ?_⟩
  · subst e; exact q b H (fun _ => G.refl) h2
  · subst e; exact q a H (fun _ => G.refl) (by rw [List.append_nil]; exact h1)
  · exact q p _ (fun _ => G.alloc hp) (.inl upd_same)
def rSlR : V → Option Int → Option Int → Hp → VK → Prop := fun x lo hi H Q => ∃ a xs, x = .ref a ∧ Rd H a (.tup xs) ∧ ∀ p H2, (∀ o, G o H H2) → Rd H2 p (.tup (cutV xs lo hi)) → Q (.ref p) H2
theorem sl_tupR {X : Cx} : SlR X rSlR := SlR.weak sl_tupA fun x lo hi H Q ⟨a, xs, e, h, q⟩ => ⟨a, xs, e, .inl h, fun w => q a H (fun _ => G.refl) (by
    have c : cutV xs lo hi = xs := by
      unfold cutV
      rw [w.1, w.2, List.drop_zero, Nat.sub_zero, List.take_length]
    rw [c]; exact h), fun _ p hp => q p _ (fun _ => G.alloc hp) (.inl upd_same)⟩
end GA
/-! ## GO -/
namespace GA
open PySem PySem.Spec PyProof.Rows L2
/-! ### what the head tells of a class -/
theorem kit_mro {K : PySem.W.Frag} {C : Addr} {n : String} {b : Bool} (h : PySem.W.mroIn K C (.type n) = some b) (hm : PySem.W.kitMeta n = true) : PySem.W.kitOne K (.ref C) (.type n) = some b := by
  unfold PySem.W.kitOne
  have e : ((Value.ref C : Value) == .type n) = false := rfl
  rw [e, if_neg Bool.false_ne_true]
  show (if PySem.W.kitMeta n = true then PySem.W.subIn K (.ref C) (.type n) else none) = some b
  rw [if_pos hm]
  exact h
theorem InsK.of {K : PySem.W.Frag} {C : Addr} (ic : C8.InsC K C) (hi : PySem.W.mroIn K C (.type "int") = some false) (hb : PySem.W.mroIn K C (.type "bool") = some false) (ht : PySem.W.mroIn K C (.type "tuple") = some false) (hs : PySem.W.mroIn K C (.type "str") = some false) : InsK K C :=
  ⟨ic, kit_mro hi (by decide +kernel), kit_mro hb (by decide +kernel), kit_mro ht (by decide +kernel), kit_mro hs (by decide +kernel)⟩
theorem cls_some {K : PySem.W.Frag} {C : Addr} {b : Value} {r : Bool} (h : PySem.W.mroIn K C b = some r) : (PySem.W.clsIn K C).isSome = true := by
  unfold PySem.W.mroIn at h
  cases e : PySem.W.clsIn K C with
  | none => rw [e] at h; cases h
  | some _ => rfl
theorem kit_own {K : PySem.W.Frag} {C : Addr} {T : String} {l : List Value} (hc : (PySem.W.clsIn K C).isSome = true) (hty : PySem.W.typeIn K (.ref C) = some (.type "type")) (hf : fastBuiltinMro T = some l) (hl : l.contains (.ref C) = false) : PySem.W.kitOne K (.type T) (.ref C) = some false := by
  unfold PySem.W.kitOne
  have e : ((Value.type T : Value) == .ref C) = false := rfl
  rw [e, if_neg Bool.false_ne_true]
  show (if ((PySem.W.clsIn K C).isSome && PySem.W.typeIn K (.ref C) == some (.type "type")) = true then PySem.W.subIn K (.type T) (.ref C) else none) = some false
  have z : (PySem.W.typeIn K (.ref C) == some (.type "type")) = true := by rw [hty]; exact beq_self_eq_true _
  rw [hc, z, Bool.and_self, if_pos rfl]
  show (fastBuiltinMro T).map (·.contains (.ref C)) = some false
  rw [hf, Option.map_some, hl]
theorem not_first {K : PySem.W.Frag} {C : Addr} {T : String} {l : List Value} (hf : fastBuiltinMro T = some l) (hl : l.contains (.ref C) = false) : PySem.W.notFirst K C (.type T) = true := by
  unfold PySem.W.notFirst
  have e : PySem.W.subIn K (.type T) (.ref C) = some false := by
    show (fastBuiltinMro T).map (·.contains (.ref C)) = some false
    rw [hf, Option.map_some, hl]
  rw [e]; exact Bool.or_true _
theorem fb_tuple : fastBuiltinMro "tuple" = some [.type "tuple", .type "object"] := by decide +kernel
/-! ### x == y by x's own == -/
section
variable {X : Cx} {n : Nat} {CX : CXT} {C f : Addr} {fd : FuncData} {ps : List Str} {sp : Sp} {E : XK}
theorem rc_own (F : FnOk X.prog X.w X.K X.mg X.base CX n f fd ps sp) (hs : PySem.W.findIn X.K (.ref C) "__eq__" = some (some (.ref f))) (hf : PySem.W.isFn X.K (.ref f) = true) (hb : Binds X.K fd ps []) (hx : Passes CX X E)
    {A : Around} {pins : List (Addr × Obj)} {s : Shared} {σ : L2.St} {H : Hp} {a dx : Addr} {fs : List (Str × V)} {y : V} {v t : Value} {Q : Bool → Hp → Prop}
    (sb : Sub X n A) (I : Inv X pins σ H s) (ha : H a = some (.ins C dx fs)) (ry : RelV y v) (ty : TyX X.K H y t) (nf : PySem.W.notFirst X.K C t = true) (hsp : sp [.ref a, y] H (fun z H' => ∃ b, z = .bl b ∧ Q b H') E) :
    wpAny (model X.prog X.w) A (richCompare .Eq (.ref a) v) (fun r s' => ∃ b H', r = .bool b ∧ Inv X pins σ H' s' ∧ Q b H') X.xe s := by
  obtain ⟨mA, J, _⟩ := ins_get I.hok ha
  obtain ⟨od, J, _⟩ := J.look
  obtain ⟨P, Z, p, _⟩ := kit_of I ry ty
  obtain ⟨m, hF⟩ := I.fr
  refine PySem.W.cmp_K (op := .Eq) (tb := t) sb.room.units0 hF I.ok.mod.kin J (Z.ty _ _ I.kIn p) nf hs hf ?_
  have e0 : Env0 X.prog X.w X.K X.mg X.base A X.stack s H := by
    have e := I.env0
    exact ⟨by rw [sb.fr]; exact e.frames, e.mod, e.bs, e.bsz, e.funs, e.frf, e.hok, e.bare⟩
  have hl := F.len _ _ _ _ hsp
  have r2 : Vals [V.ref a, y] [Value.ref a, v] := .cons rfl (.cons ry .nil)
  refine wpAny_call (codeAny_mono (F.run A X.stack s H ⟨[.ref a, v], []⟩ [.ref a, v] [.ref a, y] _ E sb.room e0 (by
    have := hb s [.ref a, v] I.kIn (by simpa using hl)
    simpa using this) r2 hsp) fun r s' hq => ?_)
  cases r with
  | error e => exact hx pins σ H s e s' I hq
  | ok fl =>
    cases fl with
    | ret w =>
      obtain ⟨z, H', I', rz, b, ez, q⟩ := I.after hq
      subst ez
      cases rz
      exact ⟨b, H', rfl, I', q⟩
    | next => exact False.elim hq
    | brk => exact False.elim hq
    | cont => exact False.elim hq
/-- x == y, x an instance of the class at C -/
def rEqI (K : PySem.W.Frag) (C : Addr) (sp : Sp) (E : XK) : R2 := fun x y H Q => ∃ a dx fs t, x = .ref a ∧ H a = some (.ins C dx fs) ∧ TyX K H y t ∧ PySem.W.notFirst K C t = true ∧ sp [.ref a, y] H (fun z H' => ∃ b, z = .bl b ∧ Q (.bl b) H') E
theorem op_eqI (F : FnOk X.prog X.w X.K X.mg X.base CX n f fd ps sp) (hs : PySem.W.findIn X.K (.ref C) "__eq__" = some (some (.ref f))) (hf : PySem.W.isFn X.K (.ref f) = true) (hb : Binds X.K fd ps []) (hx : Passes CX X E) (hr : Room n X.A) : OpR X (compareOp .Eq) (rEqI X.K C sp E) := by
  intro pins s σ H x y u v Q I rx ry h
  obtain ⟨a, dx, fs, t, rfl, ha, ty, nf, hsp⟩ := h
  cases rx
  show wpAny (model X.prog X.w) X.A (richCompare .Eq (.ref a) v) (EP X pins σ Q) X.xe s
  refine wpAny_mono (rc_own F hs hf hb hx (Q := fun b H' => Q (.bl b) H') ⟨hr, rfl⟩ I ha ry ty nf hsp) (fun r s' z => ?_) fun _ _ x => x
  obtain ⟨b, H', rfl, I', q⟩ := z
  exact ⟨.bl b, H', I', rfl, q⟩
/-! ### any thing == data of ints and tuples -/
/-- what only ints and tuples make up -/
inductive Pl : Nat → Tg → Prop
  | int {d : Nat} (i : Int) : Pl d (.int i)
  | tup {d : Nat} {us : List Tg} : (∀ u ∈ us, Pl d u) → Pl (d + 1) (.tup us)
/-- what an instance's own == says of what is none of its class -/
def spNe (C : Addr) : Sp := fun vs H Q _ => ∃ a y, vs = [.ref a, y] ∧ (∃ dx fs, H a = some (.ins C dx fs)) ∧ ((∃ j, y = .int j) ∨ ∃ b ys, y = .ref b ∧ Rd H b (.tup ys)) ∧ ∀ H', G none H H' → Q (.bl false) H'
end
end GA
/-! ## GP -/
/-! a dict == an int, a tuple -/
namespace GQD
open PySem PySem.SeqAt
open AutoSeq1 (wpAny_loadPart')
open MeetsSeq
section
variable {A : Around} {s : Shared} {l b : Addr} {es : Array DictEntry} {ep : Nat} {dd : Option Addr} {sl : Array (Option Value)} {items2 : Array Value}
end
end GQD
namespace GA
open PySem PySem.Spec PyProof.Rows L2
section
variable {X : Cx} {n : Nat} {CX : CXT} {C f : Addr} {hd : Addr × Addr} {fd : FuncData} {ps : List Str} {sp : Sp} {E : XK}
/-- what must be known of the own == -/
structure OwnEq (X : Cx) (n : Nat) (CX : CXT) (C f : Addr) (fd : FuncData) (ps : List Str) (sp : Sp) (E : XK) : Prop where
  F : FnOk X.prog X.w X.K X.mg X.base CX n f fd ps sp
  hs : PySem.W.findIn X.K (.ref C) "__eq__" = some (some (.ref f))
  hf : PySem.W.isFn X.K (.ref f) = true
  hb : Binds X.K fd ps []
  hx : Passes CX X E
  ne : ∀ vs H Q E', spNe C vs H Q E' → sp vs H Q E'
theorem nf_tuple {K : PySem.W.Frag} {C : Addr} : PySem.W.notFirst K C (.type "tuple") = true := not_first fb_tuple rfl
end
end GA
/-! ## GQ1 -/
namespace GA
open PySem PySem.Spec PyProof.Rows L2
section
variable {X : Cx} {n : Nat} {CX : CXT} {C f : Addr} {hd : Addr × Addr} {fd : FuncData} {ps : List Str} {sp : Sp} {E : XK}
end
/-! ### exceptions -/
theorem passE0 {P : Program} {w : World} {X : Cx} : Passes (L2.CX P w) X E0 := fun _ _ _ _ _ _ _ h => by
  obtain ⟨_, _, _, _, _, _, _, _, _, _, _, _, z⟩ := h
  exact z.elim
/-- isinstance(e, c), e the exception that the suite holds, its own names in the dict d -/
def rIsX (K : PySem.W.Frag) (D a : Addr) (d : Option Addr) : List V → Hp → VK → Prop := fun xs H Q => ∃ (c : V) (u : Value) (b : Bool) (dd : Addr) (fs : List (Str × V)), xs = [.ref a, c] ∧ ClsV c u ∧ d = some dd ∧ H dd = some (.xd fs) ∧ PySem.W.kitOne K (.ref D) u = some b ∧ Q (.bl b) H
theorem call_isX {X : Cx} {a D : Addr} {oe : Obj} {d : Option Addr} {cls : Value} {pn : List (Addr × Obj)} (C : ExcC X.K D) (hz : Zc cls d oe) (hc : cls = .ref D) (hf : ∃ vs, oe.data = .fields vs) : CallR (X.suite a ((a, oe) :: pn)) (.builtin "isinstance") (rIsX X.K D a d) := by
  intro pins s σ H xs us Q I r h
  obtain ⟨c, u, b, dd, fs, rfl, hcv, ed, ea, e, q⟩ := h
  obtain ⟨u1, u2, rfl, r1, r2⟩ := vals2 r
  cases (show u1 = Value.ref a from r1)
  have e2 := hcv.eq r2
  subst e2
  subst hc
  subst ed
  obtain ⟨hget, _⟩ := I.pin (a, oe) (List.mem_append.mpr (.inl List.mem_cons_self))
  obtain ⟨vs, hv⟩ := hf
  have hx : ObjOk X.prog X.w H s.heap dd (.xd fs) := I.hok dd _ ea
  obtain ⟨mA, hns, hr⟩ := hx
  obtain ⟨od, ho, hl⟩ := lookIn_ns hns
  have J : PySem.W.InstAt s.heap a oe D (some od) := ⟨hget, hz.1, by unfold PySem.W.notCls; rw [hv] <;> rfl, by rw [hz.2]; exact ho⟩
  have hcl : (PySem.W.clsIn X.K D).isSome = true := cls_some C.hm
  exact PySem.W.kia_one (PySem.W.kitx_exc hcl C.hg C.hk C.hs C.ha C.hn C.ht C.hm) I.kIn J e (fun z => nomatch z) fun tk => ⟨.bl b, H, I.kept (t' := tk) fun _ _ z => z, rfl, q⟩
end GA
/-! ## GR -/
namespace GA
open PySem PySem.Spec PyProof.Rows L2
/-! ### an instance whose own __init__ may raise, called where the slots are known -/
section
variable {X : Cx} {CX : CXT} {k : Nat} {f C : Addr} {fd : FuncData} {ps : List Str} {sp : Sp}
theorem run_makeS {E : XK} {pins : List (Addr × Obj)} {σ : L2.St} {H : Hp} {s : Shared} {Q : VK} {us : List Value} {vs : List V}
    (M : Mk X.K C f) (F : FnOk X.prog X.w X.K X.mg X.base CX k f fd ps sp) (hr : Room (k + 1) X.A) (hb : Binds X.K fd ps []) (hp : PassesAt CX X σ E) (I : Inv X pins σ H s) (r : Vals vs us)
    (h : ∀ x dx, H x = none → H dx = none → dx ≠ x → sp (.ref x :: (vs ++ [])) (upd (upd H dx (.own x)) x (.ins C dx [])) (fun v H2 => v = .non ∧ Q (.ref x) H2) E) :
    wpAny (model X.prog X.w) X.A (call (.ref C) us) (EP X pins σ Q) X.xe s := by
  have n0 : H s.heap.objs.size = none := I.hok.fresh (Nat.le_refl _)
  have n1 : H (s.heap.objs.size + 1) = none := I.hok.fresh (Nat.le_succ _)
  have hq := h _ _ n1 n0 (Nat.ne_of_lt (Nat.lt_succ_self _))
  have J := Inv.made (C := C) I
  have rr : Vals (V.ref (s.heap.objs.size + 1) :: (vs ++ [])) (Value.ref (s.heap.objs.size + 1) :: us) := .cons rfl (by rw [List.append_nil]; exact r)
  have len : (Value.ref (s.heap.objs.size + 1) :: us ++ []).length = ps.length := by
    rw [List.append_nil]
    exact rr.length.symm.trans (F.len _ _ _ _ hq)
  have bd := hb _ (Value.ref (s.heap.objs.size + 1) :: us) J.kIn len
  rw [List.append_nil] at bd
  refine wpAny_call (make_map (f := f) I.kIn M.makes M.init (beq_iff_eq.mp M.fn) (codeAny_mono (F.run _ X.stack _ _ ⟨Value.ref (s.heap.objs.size + 1) :: us, []⟩ (Value.ref (s.heap.objs.size + 1) :: us) _ _ E (hr.make C us []) (J.env0.make C us []) bd rr hq) fun b s' z => ?_))
  match b, z with
  | .error e, z => exact hp pins _ _ e s' J z
  | .ok (.ret u), z =>
    obtain ⟨v, H', J3, rv, ev, q3⟩ := J.after z
    subst ev
    exact ⟨rv, .ref (s.heap.objs.size + 1), H', J3, rfl, q3⟩
  | .ok .next, z => exact False.elim z
  | .ok .brk, z => exact False.elim z
  | .ok .cont, z => exact False.elim z
def tMakeS (C : Addr) (sp : Sp) (E : L2.St → XK) (t : TA) : TE := fun σ H Q => t σ H fun vs H1 => ∀ x dx, H1 x = none → H1 dx = none → dx ≠ x → sp (.ref x :: (vs ++ [])) (upd (upd H1 dx (.own x)) x (.ins C dx [])) (fun v H2 => v = .non ∧ Q (.ref x) H2) (E σ)
theorem w_makeS {E : L2.St → XK} {t : TA} {σ : L2.St} {H : Hp} {Q : VK} (q : t σ H fun vs H1 => ∀ x dx, H1 x = none → H1 dx = none → dx ≠ x → sp (.ref x :: (vs ++ [])) (upd (upd H1 dx (.own x)) x (.ins C dx [])) (fun v H2 => v = .non ∧ Q (.ref x) H2) (E σ)) : tMakeS C sp E t σ H Q := q
theorem pe_makeS {E : L2.St → XK} {x : Str} {p pos : Pos} {e : Expr} {es : List Expr} {t : TA} (M : Mk X.K C f) (F : FnOk X.prog X.w X.K X.mg X.base CX k f fd ps sp) (hr : Room (k + 1) X.A) (hg : Gl X x) (hm : X.mg x = some (.ref C)) (hb : Binds X.K fd ps []) (hp : ∀ σ, PassesAt CX X σ (E σ)) (ha : PA X (e :: es) t)
    (hd : (x == ("__debug__" : Str)) = false := by decide) (he : starEach (e :: es) X.env = (false, eval e X.env) :: starEach es X.env := by rfl) (hl : (backTo pos (starEach es X.env)).any (·.1) = false := by rfl) :
    PE X (.Call (.Name x p) (e :: es) [] pos) (tMakeS C sp E t) := by
  constructor
  intro pins s σ H Q I h
  refine wpAny_Call_Name_kw (ld_glob I hg hm ?_ hd)
  refine PySem.W.callWith_K (h₀ := X.base) I.ok.mod.kin M.kp (thn (ha.run pos pins s σ H _ I h) fun us s1 z => ?_) he hl
  obtain ⟨vs, H1, I1, r, q⟩ := z
  exact ⟨I1.kIn, run_makeS M F hr hb (hp σ) I1 r q⟩
end
/-! ### the caught error is asked of what class it is -/
def rIsX' (K : PySem.W.Frag) (D a : Addr) (cls : Value) (d : Option Addr) : List V → Hp → VK → Prop := fun xs H Q => cls = .ref D ∧ rIsX K D a d xs H Q
theorem call_isX' {X : Cx} {a D : Addr} {oe : Obj} {d : Option Addr} {cls : Value} {pn : List (Addr × Obj)} (C : ExcC X.K D) (hz : Zc cls d oe) (hf : ∃ vs, oe.data = .fields vs) : CallR (X.suite a ((a, oe) :: pn)) (.builtin "isinstance") (rIsX' X.K D a cls d) := by
  intro pins s σ H xs us Q I r h
  exact call_isX C hz h.1 hf pins s σ H xs us Q I r h.2
theorem w_xf {a C : Addr} {cls : Value} {d : Option Addr} {f : Str} {te : TE} {σ : L2.St} {H : Hp} {Q : VK} (q : te σ H fun x H1 => x = .ref a ∧ cls = .ref C ∧ ∃ (dd : Addr) (fs : List (Str × V)) (v : V), d = some dd ∧ H1 dd = some (.xd fs) ∧ fs.lookup f = some v ∧ Q v H1) : tXf a cls d C f te σ H Q := q
/-! ### any thing of ints and tuples is data -/
mutual
def tgD : Tg → PyData
  | .non => .none
  | .bl b => .bool b
  | .int i => .int i
  | .str x => .str x
  | .tup ts => .tuple (tgDs ts)
  | .oth => .none
def tgDs : List Tg → List PyData
  | [] => []
  | t :: ts => tgD t :: tgDs ts
end
mutual
theorem Ab.dp {K : PySem.W.Frag} {C : Addr} {hd : Addr × Addr} {H : Hp} : ∀ (d : Nat) (t : Tg) (v : V), Pl d t → Ab C hd H v t → Dp K H v (tgD t)
  | _, .int i, _, _, h => by cases h; exact .int i
  | _, .tup ts, _, .tup hp, h => by
    cases h with
    | tup r al => exact .tup (.inl r) (AbAll.dp _ ts _ hp al)
theorem AbAll.dp {K : PySem.W.Frag} {C : Addr} {hd : Addr × Addr} {H : Hp} : ∀ (d : Nat) (ts : List Tg) (vs : List V), (∀ u ∈ ts, Pl d u) → AbAll C hd H vs ts → DpAll K H vs (tgDs ts)
  | _, [], _, _, h => by cases h; exact .nil
  | d, t :: ts, _, hp, h => by
    cases h with
    | cons h1 h2 => exact .cons (Ab.dp d t _ (hp t List.mem_cons_self) h1) (AbAll.dp d ts _ (fun u hu => hp u (List.mem_cons_of_mem _ hu)) h2)
end
/-! ### pairs -/
theorem AbAll.two {C : Addr} {hd : Addr × Addr} {H : Hp} {xs : List V} {t1 t2 : Tg} (h : AbAll C hd H xs [t1, t2]) : ∃ v1 v2, xs = [v1, v2] ∧ Ab C hd H v1 t1 ∧ Ab C hd H v2 t2 := by
  cases h with
  | cons h1 h =>
    cases h with
    | cons h2 h => cases h; exact ⟨_, _, rfl, h1, h2⟩
theorem Ab.int_inv {C : Addr} {hd : Addr × Addr} {H : Hp} {v : V} {i : Int} (h : Ab C hd H v (.int i)) : v = .int i := by cases h; rfl
theorem Ab.pair {C : Addr} {hd : Addr × Addr} {H : Hp} {v : V} {x y : Int} (h : Ab C hd H v (.tup [.int x, .int y])) : ∃ p, v = .ref p ∧ Rd H p (.tup [.int x, .int y]) := by
  cases h with
  | tup r al =>
    obtain ⟨_, _, rfl, a1, a2⟩ := al.two
    obtain rfl := a1.int_inv
    obtain rfl := a2.int_inv
    exact ⟨_, rfl, r⟩
/-! ### the first of some numbers that is not right -/
def fw (f : Nat → Bool) (n : Nat) : Option Nat := (List.range n).find? fun i => !f i
theorem fw_none {f : Nat → Bool} {n : Nat} (h : ∀ j, j < n → f j = true) : fw f n = none := by
  unfold fw
  rw [List.find?_eq_none]
  intro j hj
  rw [h j (List.mem_range.mp hj)]
  decide
theorem fw_some {f : Nat → Bool} : ∀ {n i : Nat}, i < n → (∀ j, j < i → f j = true) → f i = false → fw f n = some i
  | 0, i, hi, _, _ => absurd hi (Nat.not_lt_zero _)
  | n + 1, i, hi, h, hf => by
    unfold fw
    rw [List.range_succ, List.find?_append]
    by_cases c : i < n
    · have e : (List.range n).find? (fun i => !f i) = some i := fw_some c h hf
      rw [e]; rfl
    · have ei : i = n := by omega
      subst ei
      have e : (List.range i).find? (fun i => !f i) = none := fw_none h
      rw [e]
      simp [hf]
/-! ### tuples of ints, by their order -/
end GA
/-! ## GS -/
namespace GA
open PySem PySem.Spec PyProof.Rows L2
/-! ### len(set(t)), t a tuple of ints -/
section
variable {X : Cx}
end
/-! ### tuples of ints, small ones -/
theorem AbAll.ints_inv {C : Addr} {hd : Addr × Addr} {H : Hp} : ∀ {d : List Int} {xs : List V}, AbAll C hd H xs (d.map Tg.int) → xs = d.map V.int
  | [], _, h => by cases h; rfl
  | i :: d, _, h => by
    cases h with
    | cons h1 h2 => rw [h1.int_inv, AbAll.ints_inv h2]; rfl
/-! ### t[::-1] of a tuple -/
section
variable {prog : Program} {w : World} {A : Around} {E : Value → Shared → Prop} {s : Shared}
end
section
variable {X : Cx}
end
end GA
/-! ## GZM -/
namespace GA
open PySem PySem.Spec PyProof.Rows L2
/-! ### zip of two things, each a list, a tuple or a text -/
/-- what zip is given -/
inductive Src
  | lst (a : Addr)
  | tup (a : Addr)
  | txt (x : Str)
def Src.v : Src → V
  | .lst a => .ref a
  | .tup a => .ref a
  | .txt x => .str x
def signs (x : Str) : List V := x.cps.toList.map fun c => .str ⟨#[c]⟩
/-- its items, as they stand -/
def Src.has (K : PySem.W.Frag) (H : Hp) : Src → List V → Prop
  | .lst a, xs => SqL K H a xs
  | .tup a, xs => SqT K H a xs
  | .txt x, xs => xs = signs x
def Src.off : Src → Addr → Prop
  | .lst a, b => a ≠ b
  | .tup a, b => a ≠ b
  | .txt _, _ => True
def Src.is : Src → Addr → Prop
  | .lst a, b => b = a
  | .tup a, b => b = a
  | .txt _, _ => False
theorem Src.apart : ∀ {S : Src} {b c : Addr}, S.off b → S.is c → c ≠ b
  | .lst _, _, _, n, e => by
    cases e
    exact n
  | .tup _, _, _, n, e => by
    cases e
    exact n
/-- its walker stands ahead of item i -/
def Src.at : Src → Nat → Addr → Heap → Prop
  | .lst a, i, it, h => h.IsListIter it a i
  | .tup a, i, it, h => h.IsTupleIter it a i
  | .txt x, i, it, h => ∃ t, h.IsStrIter it (strIterType x) x t i
theorem Src.at_stay : ∀ {S : Src} {i : Nat} {it : Addr} {h h' : Heap}, S.at i it h → (∀ o, h.get? it = some o → h'.get? it = some o) → S.at i it h'
  | .lst _, _, _, _, _, p, k => Heap.IsListIter.at p k
  | .tup _, _, _, _, _, p, k => Heap.IsTupleIter.at p k
  | .txt _, _, _, _, _, ⟨t, o, e, r⟩, k => ⟨t, o, k o e, r⟩
theorem Src.at_obj : ∀ {S : Src} {i : Nat} {it : Addr} {h : Heap}, S.at i it h → ∃ o, h.get? it = some o ∧ ∀ v, o.data ≠ .cell v
  | .lst _, _, _, _, ⟨o, e, _, d⟩ => ⟨o, e, fun v z => by
    rw [d] at z
    cases z⟩
  | .tup _, _, _, _, ⟨o, e, _, d⟩ => ⟨o, e, fun v z => by
    rw [d] at z
    cases z⟩
  | .txt _, _, _, _, ⟨_, o, e, _, d⟩ => ⟨o, e, fun v z => by
    rw [d] at z
    cases z⟩
section
variable {X : Cx} {pins : List (Addr × Obj)} {σ : L2.St} {H : Hp} {s : Shared}
theorem src_draws (hd : X.A.in1.handled = none) (I : Inv X pins σ H s) : ∀ {S : Src} {xs : List V} {i : Nat} {it : Addr}, S.has X.K H xs → S.off it → S.at i it s.heap →
    ∃ (fp : List Addr) (P : Nat → Value → Prop) (N : Nat → Heap → Prop), Draws X.prog X.w X.A.in1 it fp xs.length P N ∧ N i s.heap ∧ it ∈ fp ∧ (∀ b ∈ fp, b = it ∨ S.is b) ∧
      (∀ j v, P j v → ∃ x, xs[j]? = some x ∧ RelV x v) ∧ ∀ j h, N j h → S.at j it h
  | .lst a, xs, i, it, q, n, st => by
    obtain ⟨its, r, p, _⟩ := I.list q
    have l : its.toArray.size = xs.length := by rw [List.size_toArray]; exact r.length.symm
    refine ⟨_, _, _, l ▸ Draws.list hd it a n its.toArray, ⟨st, p.isList⟩, by simp, fun b m => by simpa [Src.is] using m, fun j v e => ?_, fun j h z => z.1⟩
    have e2 : its[j]? = some v := by simpa using e
    have lt : j < xs.length := by rw [r.length]; exact (List.getElem?_eq_some_iff.mp e2).1
    obtain ⟨u, h1, h2⟩ := r.get (List.getElem?_eq_getElem lt)
    rw [e2] at h1
    cases h1
    exact ⟨_, List.getElem?_eq_getElem lt, h2⟩
  | .tup a, xs, i, it, q, n, st => by
    obtain ⟨its, r, p, _⟩ := I.tuple q
    have l : its.toArray.size = xs.length := by rw [List.size_toArray]; exact r.length.symm
    refine ⟨_, _, _, l ▸ Draws.tuple hd it a n its.toArray, ⟨st, p⟩, by simp, fun b m => by simpa [Src.is] using m, fun j v e => ?_, fun j h z => z.1⟩
    have e2 : its[j]? = some v := by simpa using e
    have lt : j < xs.length := by rw [r.length]; exact (List.getElem?_eq_some_iff.mp e2).1
    obtain ⟨u, h1, h2⟩ := r.get (List.getElem?_eq_getElem lt)
    rw [e2] at h1
    cases h1
    exact ⟨_, List.getElem?_eq_getElem lt, h2⟩
  | .txt x, xs, i, it, q, n, ⟨t, st⟩ => by
    have l : x.cps.size = xs.length := by
      rw [show xs = signs x from q]
      simp [signs]
    refine ⟨_, _, _, l ▸ Draws.text hd it x t, st, by simp, fun b m => .inl (by simpa using m), fun j v e => ?_, fun j h z => ⟨t, z⟩⟩
    obtain ⟨c, u, hc, rfl⟩ := e
    refine ⟨.str ⟨#[c]⟩, ?_, u, rfl⟩
    rw [show xs = signs x from q]
    simp [signs, hc]
end
section
variable {X : Cx} {pins : List (Addr × Obj)} {σ : L2.St} {H : Hp} {s : Shared}
theorem src_inj (I : Inv X pins σ H s) : ∀ {S : Src} {xs ys : List V}, S.has X.K H xs → S.has X.K H ys → xs = ys
  | .lst _, _, _, h, h' => I.list_inj h h'
  | .tup _, _, _, h, h' => I.tuple_inj h h'
  | .txt _, _, _, h, h' => (show _ = _ from h).trans (show _ = _ from h').symm
end
/-- the five new things of a zip lie apart from what it goes over -/
structure Apt (z ti tp i1 i2 : Addr) (S1 S2 : Src) : Prop where
  tiz : ti ≠ z
  tpz : tp ≠ z
  titp : ti ≠ tp
  ti1 : ti ≠ i1
  ti2 : ti ≠ i2
  z1 : i1 ≠ z
  z2 : i2 ≠ z
  p1 : i1 ≠ tp
  p2 : i2 ≠ tp
  i12 : i1 ≠ i2
  o1 : ∀ b, b = z ∨ b = tp ∨ b = i1 ∨ b = i2 → S1.off b
  o2 : ∀ b, b = z ∨ b = tp ∨ b = i1 ∨ b = i2 → S2.off b
theorem Apt.sep {z ti tp i1 i2 : Addr} {S1 S2 : Src} (D : Apt z ti tp i1 i2 S1 S2) {f1 f2 : List Addr} (m1 : i1 ∈ f1) (m2 : i2 ∈ f2) (g1 : ∀ b ∈ f1, b = i1 ∨ S1.is b) (g2 : ∀ b ∈ f2, b = i2 ∨ S2.is b) : ZipSep2 z ti tp i1 i2 f1 f2 where
  TIz := D.tiz
  TOz := D.tpz
  TITO := D.titp
  TIi1 := D.ti1
  mem1 := m1
  zf1 := fun m => (g1 _ m).elim (fun e => D.z1 e.symm) fun e => Src.apart (D.o1 _ (.inl rfl)) e rfl
  Tf1 := fun m => (g1 _ m).elim (fun e => D.p1 e.symm) fun e => Src.apart (D.o1 _ (.inr (.inl rfl))) e rfl
  TIi2 := D.ti2
  mem2 := m2
  zf2 := fun m => (g2 _ m).elim (fun e => D.z2 e.symm) fun e => Src.apart (D.o2 _ (.inl rfl)) e rfl
  Tf2 := fun m => (g2 _ m).elim (fun e => D.p2 e.symm) fun e => Src.apart (D.o2 _ (.inr (.inl rfl))) e rfl
  sep1_2 := fun m => (g2 _ m).elim (fun e => D.i12 e) fun e => Src.apart (D.o2 _ (.inr (.inr (.inl rfl)))) e rfl
  sep2_1 := fun m => (g1 _ m).elim (fun e => D.i12 e.symm) fun e => Src.apart (D.o1 _ (.inr (.inr (.inr rfl)))) e rfl
/-- the turns of a zip: the items that stand there, in new pairs -/
def ItzM (K : PySem.W.Frag) (S1 S2 : Src) : It :=
  ⟨fun i H => ∃ xs ys : List V, S1.has K H xs ∧ S2.has K H ys ∧ i < xs.length ∧ i < ys.length,
    fun i H v H' => ∃ T x y, v = .ref T ∧ H T = none ∧ H' = upd H T (.tup [x, y]) ∧ (∀ xs, S1.has K H xs → xs[i]? = some x) ∧ ∀ ys, S2.has K H ys → ys[i]? = some y,
    fun i H => ∃ xs ys : List V, S1.has K H xs ∧ S2.has K H ys ∧ i ≤ xs.length ∧ i ≤ ys.length ∧ (i = xs.length ∨ i = ys.length)⟩
theorem turn_zipM {P : Program} {w : World} {K : PySem.W.Frag} {elts : List Expr} {kk : Nat} {tpos : Pos} {S1 S2 : Src} {z ti tp i1 i2 : Addr} (D : Apt z ti tp i1 i2 S1 S2) :
    Turn P w K (.Tuple elts kk tpos) (ItzM K S1 S2) [z, ti, tp, i1, i2] z (fun i h => IsZip h z ti tp .none ∧ IsTupOf2 h ti (.ref i1) (.ref i2) ∧ (∃ a b, IsTupOf2 h tp a b) ∧ S1.at i i1 h ∧ S2.at i i2 h) where
  mem := List.mem_cons_self ..
  obj := by
    rintro i h ⟨gz, gi, ⟨a, b, gp⟩, g1, g2⟩ c m
    simp only [List.mem_cons, List.not_mem_nil, or_false] at m
    rcases m with rfl | rfl | rfl | rfl | rfl
    · exact ⟨_, gz, fun _ e => nomatch e⟩
    · exact ⟨_, gi, fun _ e => nomatch e⟩
    · exact ⟨_, gp, fun _ e => nomatch e⟩
    · exact Src.at_obj g1
    · exact Src.at_obj g2
  keep := by
    rintro i h h' ⟨gz, gi, ⟨a, b, gp⟩, g1, g2⟩ k
    exact ⟨k z (by simp) _ gz, k ti (by simp) _ gi, ⟨a, b, k tp (by simp) _ gp⟩, Src.at_stay g1 fun o e => k i1 (by simp) o e, Src.at_stay g2 fun o e => k i2 (by simp) o e⟩
  item := by
    intro X eP ew eK calm i pins s σ H E I f st go
    subst eP ew eK
    obtain ⟨gz, gi, ⟨a, b, gp⟩, g1, g2⟩ := st
    obtain ⟨xs, ys, q1, q2, l1, l2⟩ := go
    have hd : X.A.in1.handled = none := I.ok.hd calm
    obtain ⟨f1, P1, N1, d1, n1, m1, k1, r1, b1⟩ := src_draws hd I q1 (D.o1 _ (.inr (.inr (.inl rfl)))) g1
    obtain ⟨f2, P2, N2, d2, n2, m2, k2, r2, b2⟩ := src_draws hd I q2 (D.o2 _ (.inr (.inr (.inr rfl)))) g2
    have S := D.sep m1 m2 k1 k2
    have zl : z < s.heap.objs.size := Heap.lt_size gz
    refine wpAny_pyNext_zipD2_item S d1 d2 gz gi gp n1 n2 l1 l2 fun u1 u2 h' tk y1 y2 z' p' e1 e2 new size stay => ?_
    obtain ⟨x, hx, rx⟩ := r1 _ _ y1
    obtain ⟨y, hy, ry⟩ := r2 _ _ y2
    refine ⟨_, rfl, wpAny_letOwnedTupleGo_zip (s := { s with heap := h', toks := tk }) z' fun hb zb kb => ?_⟩
    have new2 : hb.get? s.heap.objs.size = some { cls := .type "tuple", data := .seq #[u1, u2] } := (kb.2 _ (Nat.ne_of_gt zl)).trans new
    have ob : ObjOk X.prog X.w (upd H s.heap.objs.size (.tup [x, y])) hb s.heap.objs.size (.tup [x, y]) := ⟨by show 2 ≤ sizeLine; decide, [u1, u2], .cons rx (.cons ry .nil), ⟨_, new2, rfl, _, rfl⟩⟩
    have J : Inv X pins σ (upd H s.heap.objs.size (.tup [x, y])) { s with heap := hb, toks := tk } := by
      refine I.turnedNew (t' := tk) (ch := [z, ti, tp, i1, i2]) (fun c o hc e => ?_) f (Nat.le_refl _) ob
      simp only [List.mem_cons, List.not_mem_nil, or_false, not_or] at hc
      exact (kb.2 c hc.1).trans (stay c o hc.1 hc.2.2.1 hc.2.2.2.1 hc.2.2.2.2 e)
    refine ⟨.ref s.heap.objs.size, _, J, rfl, ⟨_, x, y, rfl, I.hok.fresh (Nat.le_refl _), rfl, fun l h => by rw [src_inj I h q1]; exact hx, fun l h => by rw [src_inj I h q2]; exact hy⟩, ⟨zb, ?_, ⟨u1, u2, ?_⟩, ?_, ?_⟩, fun c m => ?_⟩
    · exact (kb.2 _ D.tiz).trans (stay _ _ D.tiz D.titp D.ti1 D.ti2 gi)
    · exact (kb.2 _ D.tpz).trans p'
    · exact Src.at_stay (b1 _ _ e1) fun o e => (kb.2 _ D.z1).trans e
    · exact Src.at_stay (b2 _ _ e2) fun o e => (kb.2 _ D.z2).trans e
    · have lt : c < s.heap.objs.size := by
        simp only [List.mem_cons, List.not_mem_nil, or_false] at m
        rcases m with rfl | rfl | rfl | rfl | rfl
        · exact zl
        · exact Heap.lt_size gi
        · exact Heap.lt_size gp
        · obtain ⟨_, e, _⟩ := Src.at_obj g1
          exact Heap.lt_size e
        · obtain ⟨_, e, _⟩ := Src.at_obj g2
          exact Heap.lt_size e
      rw [upd_ne (Nat.ne_of_lt lt)]
      exact (f c m).1
  done := by
    intro X eP ew eK calm i pins s σ H E I f st no
    subst eP ew eK
    obtain ⟨gz, gi, ⟨a, b, gp⟩, g1, g2⟩ := st
    obtain ⟨xs, ys, q1, q2, l1, l2, en⟩ := no
    have hd : X.A.in1.handled = none := I.ok.hd calm
    obtain ⟨f1, P1, N1, d1, n1, m1, k1, r1, b1⟩ := src_draws hd I q1 (D.o1 _ (.inr (.inr (.inl rfl)))) g1
    obtain ⟨f2, P2, N2, d2, n2, m2, k2, r2, b2⟩ := src_draws hd I q2 (D.o2 _ (.inr (.inr (.inr rfl)))) g2
    refine wpAny_pyNext_zipD2_end (D.sep m1 m2 k1 k2) d1 d2 gz gi gp n1 n2 l1 l2 en fun h' tk stay => ⟨rfl, ?_⟩
    refine I.turnedL (t' := tk) (ch := [z, ti, tp, i1, i2]) (fun c o hc e => ?_) f
    simp only [List.mem_cons, List.not_mem_nil, or_false, not_or] at hc
    exact stay c o hc.1 hc.2.2.1 hc.2.2.2.1 hc.2.2.2.2 e
  self := fun A i s Q E st h => wpAny_pyIter_zip st.1 h
section
variable {X : Cx} {pins : List (Addr × Obj)} {σ : L2.St} {H : Hp} {s : Shared}
/-- a new walker over what zip is given -/
theorem src_begins (I : Inv X pins σ H s) : ∀ {S : Src} {xs : List V} {u : Value}, S.has X.K H xs → RelV S.v u →
    ∃ (o : Obj) (G : Heap → Prop), Begins u o G ∧ G s.heap ∧ (∀ b, s.heap.objs.size ≤ b → S.off b) ∧ ∀ (h : Heap) (it : Addr), h.get? it = some o → S.at 0 it h
  | .lst a, xs, u, q, r => by
    cases r
    obtain ⟨its, _, p, _⟩ := I.list q
    exact ⟨_, _, begins_list a its.toArray, p.isList, fun b le e => Nat.lt_irrefl b (Nat.lt_of_lt_of_le (e ▸ p.lt) le), fun h it e => ⟨_, e, rfl, rfl⟩⟩
  | .tup a, xs, u, q, r => by
    cases r
    obtain ⟨its, _, p, _⟩ := I.tuple q
    refine ⟨_, _, begins_tuple a its.toArray, p, fun b le e => ?_, fun h it e => ⟨_, e, rfl, rfl⟩⟩
    obtain ⟨o, g, _⟩ := p
    exact Nat.lt_irrefl b (Nat.lt_of_lt_of_le (e ▸ Heap.lt_size g) le)
  | .txt x, xs, u, q, ⟨t, e⟩ => by
    subst e
    exact ⟨_, _, begins_text x t, trivial, fun _ _ => trivial, fun h it e => ⟨t, _, e, rfl, rfl⟩⟩
end
def iZipM (K : PySem.W.Frag) (ta : TA) : TI := fun σ H R => ta σ H fun vs H1 => ∃ (S1 S2 : Src) (xs ys : List V), vs = [S1.v, S2.v] ∧ S1.has K H1 xs ∧ S2.has K H1 ys ∧ R (ItzM K S1 S2) H1
theorem pi_zipM {X : Cx} {e e2 : Expr} {ta : TA} {p pos tpos : Pos} {elts : List Expr} {kk : Nat} (hg : Gl X "zip") (hm : X.mg "zip" = none) (ha : PA X [e, e2] ta)
    (hs : starEach [e, e2] X.env = (false, eval e X.env) :: starEach [e2] X.env := by rfl) (hpl : (backTo pos (starEach [e2] X.env)).any (·.1) = false := by rfl) :
    PI X (.Tuple elts kk tpos) (.Call (.Name "zip" p) [e, e2] [] pos) (iZipM X.K ta) := by
  constructor
  intro pins s σ H R I want
  refine Call_ (ld_blt I hg hm PyProof.Rows.boot_zip (PyProof.Rows.callWith_type1 (thn (ha.run pos pins s σ H _ I want) fun us s1 got => ?_) hs hpl))
  obtain ⟨vs, H1, I1, rel, S1, S2, xs, ys, e, q1, q2, rest⟩ := got
  subst e
  obtain _ | ⟨r1, _ | ⟨r2, rr⟩⟩ := rel
  cases rr
  obtain ⟨o1, G1, B1, g1, f1, t1⟩ := src_begins I1 q1 r1
  obtain ⟨o2, G2, B2, g2, f2, t2⟩ := src_begins I1 q2 r2
  refine zip_begins2 B1 B2 g1 g2 fun h' gz gi gp e1 e2 size stay => wpAny_pyIter_zip gz ?_
  have J : Inv X pins σ H1 { s1 with heap := h' } := I1.kept (t' := s1.toks) stay
  have D : Apt (s1.heap.objs.size + 4) (s1.heap.objs.size + 2) (s1.heap.objs.size + 3) s1.heap.objs.size (s1.heap.objs.size + 1) S1 S2 := by
    refine ⟨?_, ?_, ?_, ?_, ?_, ?_, ?_, ?_, ?_, ?_, fun b m => f1 b ?_, fun b m => f2 b ?_⟩
    iterate 10 (exact fun e => by have e2 : (_ : Nat) = _ := e; simp at e2)
    · rcases m with e | e | e | e <;> (rw [e]; first | exact Nat.le_refl _ | exact Nat.le_add_right _ _)
    · rcases m with e | e | e | e <;> (rw [e]; first | exact Nat.le_refl _ | exact Nat.le_add_right _ _)
  refine ⟨_, [s1.heap.objs.size + 4, s1.heap.objs.size + 2, s1.heap.objs.size + 3, s1.heap.objs.size, s1.heap.objs.size + 1], _, _, H1, rfl, J, turn_zipM D, ⟨gz, gi, ⟨_, _, gp⟩, t1 _ _ e1, t2 _ _ e2⟩, fun c m => ?_, rest⟩
  have le : s1.heap.objs.size ≤ c := by
    simp only [List.mem_cons, List.not_mem_nil, or_false] at m
    rcases m with e | e | e | e | e <;> (rw [e]; first | exact Nat.le_refl _ | exact Nat.le_add_right _ _)
  exact I1.fpOk le (I1.hok.fresh le)
end GA
/-! ## GWD -/
namespace GA
open PySem PySem.Spec PyProof.Rows L2
/-! ### a written dict of texts by texts -/
/-- the dict at d, as it is written: what stands at each text -/
def WrD (K : PySem.W.Frag) (w : World) (d : Addr) (tab : List (Str × Str)) : Prop :=
  ∃ (es : Array DictEntry) (n : Nat), KDict K w d es n ∧ ∀ z : Str, PySem.W.nsIn K d z = some none ∧ tab.lookup z = none ∨ ∃ (f : Str) (t : Tok), PySem.W.nsIn K d z = some (some (.str f t)) ∧ tab.lookup z = some f
section
variable {X : Cx} {d : Addr} {tab : List (Str × Str)}
def rNotInW (d : Addr) (tab : List (Str × Str)) : R2 := fun x y H Q => ∃ z : Str, x = .str z ∧ y = .ref d ∧ Q (.bl (tab.lookup z).isNone) H
theorem op_notInW (D : WrD X.K X.w d tab) : OpR X (compareOp .NotIn) (rNotInW d tab) := by
  obtain ⟨es, n, kd, look⟩ := D
  rintro pins s σ H x y v u Q I rx ry ⟨z, rfl, rfl, q⟩
  rcases look z with ⟨e, e2⟩ | ⟨f, t, e, e2⟩
  · rw [e2] at q
    exact op_notIn_kd kd pins s σ H _ _ v u Q I rx ry ⟨z, none, rfl, rfl, e, q⟩
  · rw [e2] at q
    exact op_notIn_kd kd pins s σ H _ _ v u Q I rx ry ⟨z, _, rfl, rfl, e, q⟩
def rItemW (d : Addr) (tab : List (Str × Str)) : R2 := fun x y H Q => ∃ (z f : Str), x = .ref d ∧ y = .str z ∧ tab.lookup z = some f ∧ Q (.str f) H
theorem ix_itemW (D : WrD X.K X.w d tab) : IxR X (rItemW d tab) := by
  obtain ⟨es, n, kd, look⟩ := D
  rintro value slice pins s σ H x y v u Q I rx ry ⟨z, f, rfl, rfl, e, q⟩ hs
  rcases look z with ⟨_, e2⟩ | ⟨f2, t, e1, e2⟩
  · rw [e] at e2
    cases e2
  · rw [e] at e2
    cases e2
    exact ix_kdict value slice pins s σ H _ _ v u Q I rx ry ⟨d, z, .str f, rfl, rfl, ⟨es, n, _, kd.at_, kd.lit, e1, t, rfl⟩, q⟩ hs
end
end GA
/-! ## GE0 -/
namespace GA
open PySem PySem.Spec PyProof.Rows L2
/-! ### a tuple, whatever it holds, == () -/
def rEqT0 : R2 := fun x y H Q => ∃ (p q : Addr) (xs : List V), x = .ref p ∧ y = .ref q ∧ Rd H p (.tup xs) ∧ Rd H q (.tup []) ∧ Q (.bl (decide (xs = []))) H
theorem op_eqT0 {X : Cx} (hu : X.A.units < cLine) : OpR X (compareOp .Eq) rEqT0 := by
  rintro pins s σ H x y u v Q I rx ry ⟨p, q, xs, rfl, rfl, hp, hq, k⟩
  obtain rfl : u = Value.ref p := rx
  obtain rfl : v = Value.ref q := ry
  show wpAny (model X.prog X.w) X.A (richCompare .Eq _ _) (EP X pins σ Q) X.xe s
  obtain ⟨its, r1, p1, _⟩ := I.tuple (.inl hp)
  obtain ⟨its2, r2, p2, _⟩ := I.tuple (.inl hq)
  cases r2
  have l1 : its.toArray.size = xs.length := by rw [List.size_toArray]; exact r1.length.symm
  refine GQB.rc_tupB hu (fun _ => true) (fun s' => ∃ H', Inv X pins σ H' s' ∧ H' = H) p1 p2 (fun i _ h2 => absurd h2 (by simp)) (fun s' ⟨H', J, e⟩ => ⟨.bl (decide (xs = [])), H', J, ?_, e ▸ k⟩) ⟨H, I, rfl⟩
  show Value.bool _ = Value.bool _
  rw [l1]
  cases xs <;> simp
end GA
/-! ## GZW -/
namespace GA
open PySem PySem.Spec PyProof.Rows L2
theorem walk_zipM {K : PySem.W.Frag} {S1 S2 : Src} {xs ys : List V} {n : Nat} (h1 : n ≤ xs.length) (h2 : n ≤ ys.length) (h3 : n = xs.length ∨ n = ys.length) :
    Walk (ItzM K S1 S2) n (fun H => S1.has K H xs ∧ S2.has K H ys) (YPair (fun i => xs[i]?) (fun i => ys[i]?)) := by
  refine ⟨fun i _ hi q => ⟨xs, ys, q.1, q.2, by omega, by omega⟩, fun _ q => ⟨xs, ys, q.1, q.2, h1, h2, h3⟩, fun i H v H' _ q y => ?_⟩
  obtain ⟨T, x, y, h0, e1, e2, e3, e4⟩ := y
  exact ⟨T, x, y, h0, e1, e2, e3 xs q.1, e4 ys q.2⟩
end GA
/-! ## GGD -/
namespace GA
open PySem PySem.Spec PyProof.Rows L2

/-! ### defs that ask repr of things: no repr is under way around them -/
structure GOk (P : Program) (w : World) (K : PySem.W.Frag) (mg : Str → Option Value) (base : Heap) (CX : CXT) (k : Nat) (f : Addr) (fd : FuncData) (ps : List Str) (sp : Sp) : Prop where
  many : ∀ vs H Q E, sp vs H Q E → vs.length = ps.length
  goes : ∀ (B : Around) (out : List Env) (z : Shared) (H : Hp) (ar : Args) (us : List Value) (vs : List V) (Q : VK) (E : XK), B.guards = some [] → Room k B → Env0 P w K mg base B out z H →
    BindsTo z fd ar (ps.zip us) → Vals vs us → sp vs H Q E → codeAny (model P w) B (.call (.ref f) ar) (CR CX out P w H z Q E) z
section
variable {P : Program} {w : World} {K : PySem.W.Frag} {mg : Str → Option Value} {base : Heap} {CX : CXT}
theorem GOk.of {k : Nat} {f : Addr} {fd : FuncData} {ps : List Str} {sp : Sp} (F : FnOk P w K mg base CX k f fd ps sp) : GOk P w K mg base CX k f fd ps sp :=
  ⟨F.len, fun B out z H ar us vs Q E _ => F.run B out z H ar us vs Q E⟩
theorem GOk.mono {j k : Nat} {f : Addr} {fd : FuncData} {ps : List Str} {sp : Sp} (F : GOk P w K mg base CX j f fd ps sp) (le : j ≤ k) : GOk P w K mg base CX k f fd ps sp :=
  ⟨F.many, fun B out z H ar us vs Q E gd room => F.goes B out z H ar us vs Q E gd (room.mono le)⟩
/-- a def's body, as FnOk has it, with the guards told -/
theorem Fun.okG {x qual : Str} {st : Stmt} {f : Addr} {fd : FuncData} {N ps : List Str} {k : Nat} {sp : Sp} (F : Fun K x qual st f fd) (S : FnScope N ps (defScope st)) (many : ∀ vs H Q E, sp vs H Q E → vs.length = ps.length)
    (body : ∀ (cdv : Value) (B : Around) (out : List Env) (z : Shared) (H : Hp) (vs : List V) (Q : VK) (E : XK), B.guards = some [] → Room k (B.deeper (envOfC qual (defScope st) z.heap.objs.size f cdv)) → sp vs H Q E →
      ∃ t, PSs (cxOf CX P w K mg base N qual (defScope st) f cdv B out z H E) (defBody st) t ∧ t { nx := fun _ J => Q .non J, rt := Q } (start N vs) H) : GOk P w K mg base CX (k + 1) f fd ps sp := by
  obtain ⟨c1, d1, k1, m1, p1, n1, cdv, t1, l1, rfl, found, coded⟩ := F.ex
  refine ⟨many, fun B out z H ar us vs Q E gd room e0 bnd rv told => ?_⟩
  have ln := many _ _ _ _ told
  have kin : K.In z.heap := e0.mod.kin.keeps fun b u e => (e0.bs b u e).1
  have nol : z.heap.NoLimit := e0.mod.nolimit.keeps fun b u e => (e0.bs b u e).1
  have kinds : ∀ q ∈ ps.zip us, (defScope st).names.lookup q.1 = some .local ∨ ((defScope st).names.lookup q.1 = some .cell ∧ ((cellsFrom (z.heap.objs.size + 1) (defScope st).names []).lookup q.1).isSome = true) := by
    rintro ⟨n, v⟩ hq
    exact (S.par n (List.of_mem_zip hq).1).elim .inl fun q => .inr ⟨q, PySem.W.cellsFrom_some _ _ _ (.inl q)⟩
  refine codeAny_call_function room.depth (kin _ _ found) rfl S.co S.gen rfl (PySem.W.codeRec_of kin coded) (bnd _ _ _ _ ?_)
  refine wpAny_newFunctionEnv_cells S.kind kinds fun en ee z1 y => ?_
  subst ee
  refine ⟨nol.keeps y.toInCall.keep, codeAny_func ?_⟩
  obtain ⟨t, pt, qt⟩ := body cdv B out z H vs Q E gd (room.deeper _) told
  have J0 := inv_start (CX := CX) (E := E) (cd := cdv) (f := f) (qual := qual) S room.hd e0 ln rv y
  refine wpAny_mono (pt.run [] z1 (start N vs) H _ J0 qt) (fun fl z2 got => ?_) fun e z2 got => got
  cases fl with
  | ret u =>
    obtain ⟨v, σ2, H2, J, r2, q2⟩ := got
    exact ⟨v, H2, J.os, J.bare, J.base, J.hok, r2, q2⟩
  | next =>
    obtain ⟨σ2, H2, J, q2⟩ := got
    exact ⟨V.non, H2, J.os, J.bare, J.base, J.hok, rfl, q2⟩
  | brk => exact (got.choose_spec.choose_spec.2).elim
  | cont => exact (got.choose_spec.choose_spec.2).elim
theorem Fun.okG0 {x qual : Str} {st : Stmt} {f : Addr} {fd : FuncData} {N ps : List Str} {k : Nat} {sp : Sp} (F : Fun K x qual st f fd) (S : FnScope N ps (defScope st)) (many : ∀ vs H Q E, sp vs H Q E → vs.length = ps.length)
    (body : ∀ (cdv : Value) (B : Around) (out : List Env) (z : Shared) (H : Hp) (vs : List V) (Q : VK) (E : XK), B.guards = some [] → Room k (B.deeper (envOfC qual (defScope st) z.heap.objs.size f cdv)) → sp vs H Q E →
      ∃ t, PSs (cxOf CX0 P w K mg base N qual (defScope st) f cdv B out z H E).nox (defBody st) t ∧ t { nx := fun _ J => Q .non J, rt := Q } (start N vs) H) : GOk P w K mg base CX0 (k + 1) f fd ps sp :=
  Fun.okG F S many fun cdv B out z H vs Q E gd room told => by
    obtain ⟨t, pt, qt⟩ := body cdv B out z H vs Q E gd room told
    exact ⟨t, pt.nox, qt⟩
end
section
variable {X : Cx} {x : Str} {f : Addr} {fd : FuncData} {ps : List Str} {dvs : List V} {ds : List Value} {CX : CXT} {k : Nat} {sp : Sp} {E : XK} {p pos : Pos} {e : Expr} {es : List Expr} {t : TA}
theorem run_G {pins : List (Addr × Obj)} {σ : L2.St} {H : Hp} {z : Shared} {Q : VK} {us : List Value} {vs : List V} (gd : X.A.guards = some []) (F : GOk X.prog X.w X.K X.mg X.base CX k f fd ps sp) (room : Room k X.A) (bnd : Binds X.K fd ps ds) (dv : Vals dvs ds) (way : Passes CX X E)
    (I : Inv X pins σ H z) (rv : Vals vs us) (told : sp (vs ++ dvs) H Q E) : wpAny (model X.prog X.w) X.A (call (.ref f) us) (EP X pins σ Q) X.xe z := by
  have rv2 := rv.append dv
  have ln : (us ++ ds).length = ps.length := rv2.length.symm.trans (F.many _ _ _ _ told)
  refine wpAny_call (codeAny_mono (F.goes X.A X.stack z H ⟨us, []⟩ _ _ Q E gd room I.env0 (bnd z us I.kIn ln) rv2 told) fun r z2 got => ?_)
  match r, got with
  | .error e, got => exact way pins σ H z e z2 I got
  | .ok (.ret u), got => exact I.after got
  | .ok .next, got => exact got.elim
  | .ok .brk, got => exact got.elim
  | .ok .cont, got => exact got.elim
/-- a call of such a def -/
theorem pe_callG (gd : X.A.guards = some []) (F : GOk X.prog X.w X.K X.mg X.base CX k f fd ps sp) (room : Room k X.A) (gl : Gl X x) (at_ : X.mg x = some (.ref f)) (kp : PySem.W.keepIn X.K (.ref f) = true) (bnd : Binds X.K fd ps ds) (dv : Vals dvs ds) (way : Passes CX X E)
    (args : PA X (e :: es) t) (nd : (x == ("__debug__" : Str)) = false := by decide) (se : starEach (e :: es) X.env = (false, eval e X.env) :: starEach es X.env := by rfl) (pl : (backTo pos (starEach es X.env)).any (·.1) = false := by rfl) :
    PE X (.Call (.Name x p) (e :: es) [] pos) (tCall sp dvs E t) := by
  refine ⟨fun pins z σ H Q I told => wpAny_Call_Name_kw (ld_glob I gl at_ ?_ nd)⟩
  exact PySem.W.callWith_K (h₀ := X.base) I.ok.mod.kin kp (thn (args.run pos pins z σ H _ I told) fun us z1 ⟨vs, H1, I1, rv, q⟩ => ⟨I1.kIn, run_G gd F room bnd dv way I1 rv q⟩) se pl
end
/-! ### repr of data -/
section
variable {X : Cx}
/-- what repr can tell of data: nothing too long, no dict, not too deep -/
structure Shw (d : PyData) : Prop where
  low : d.showable = true
  nodict : d.hasDict = false
  flat : d.depth ≤ 40
  short : d.shown.length ≤ sizeLine
def rReprD (K : PySem.W.Frag) : List V → Hp → VK → Prop := fun vs H Q => ∃ (v : V) (d : PyData), vs = [v] ∧ Dp K H v d ∧ Shw d ∧ Q (.str d.shown) H
theorem call_reprD (gd : X.A.guards = some []) (un : X.A.units + 64 < cLine) : CallR X (.builtin "repr") (rReprD X.K) := by
  intro pins z σ H vs us Q I rv told
  obtain ⟨v, d, rfl, hd, sh, q⟩ := told
  obtain ⟨u, rfl, r1⟩ : ∃ u, us = [u] ∧ RelV v u := by
    cases rv with
    | cons a b => cases b; exact ⟨_, rfl, a⟩
  obtain ⟨as, rd⟩ := Dp.reads I d v u hd r1
  have dp := sh.flat
  have no : d.hasDict = true → sysModules ∉ as := fun e => by rw [sh.nodict] at e; cases e
  cases rd with
  | none =>
    simp only [PyData.shown] at q
    exact PySem.P.repr_of_none ⟨.str _, H, I.tok _, ⟨_, rfl⟩, q⟩
  | bool b =>
    simp only [PyData.shown] at q
    refine PySem.P.repr_of_bool ⟨.str _, H, I.tok _, ⟨_, rfl⟩, ?_⟩
    cases b <;> exact q
  | int i t =>
    simp only [PyData.shown] at q
    exact PySem.P.repr_of_int (by simpa [PyData.showable] using sh.low) ⟨.str _, H, I.tok _, ⟨_, rfl⟩, q⟩
  | str x t =>
    simp only [PyData.shown] at q
    exact PySem.P.repr_of_str ⟨.str _, H, I.tok _, ⟨_, rfl⟩, q⟩ (by simpa only [PyData.shown] using sh.short)
  | list h1 h2 h3 h4 =>
    exact repr_of_reads' (.list h1 h2 h3 h4) sh.low no gd (by omega) (fun _ _ e => e) (fun h' u tk hk => ⟨.str _, H, I.kept hk, ⟨_, rfl⟩, q⟩) sh.short
  | tuple h1 h2 h3 h4 =>
    exact repr_of_reads' (.tuple h1 h2 h3 h4) sh.low no gd (by omega) (fun _ _ e => e) (fun h' u tk hk => ⟨.str _, H, I.kept hk, ⟨_, rfl⟩, q⟩) sh.short
  | dict h1 h2 h3 h4 h5 => exact absurd sh.nodict (by simp [PyData.hasDict])
end
end GA
/-! ## GGT -/
namespace GA
open PySem PySem.Spec PyProof.Rows L2
/-! ### the top: a law whose defs ask repr -/
/-- the heap at the top: the script alone is tracked, unless it is the module's own -/
noncomputable def topH (K : PySem.W.Frag) (a : Addr) (vs : List Value) (ns : List Int) : Hp := fun b =>
  if b = a ∧ K.lookup a = none then some (.frz { cls := .type "list", data := .seq vs.toArray } (.lst (ns.map V.int))) else none
theorem topH_or {K : PySem.W.Frag} {a b : Addr} {vs : List Value} {ns : List Int} : (topH K a vs ns b = none) ∨ (b = a ∧ K.lookup a = none ∧ topH K a vs ns b = some (.frz { cls := .type "list", data := .seq vs.toArray } (.lst (ns.map V.int)))) := by
  by_cases e : b = a ∧ K.lookup a = none
  · exact .inr ⟨e.1, e.2, if_pos e⟩
  · exact .inl (if_neg e)
theorem topH_of {K : PySem.W.Frag} {a b : Addr} {vs : List Value} {ns : List Int} {u : HO} (e : topH K a vs ns b = some u) : b = a ∧ K.lookup a = none ∧ u = .frz { cls := .type "list", data := .seq vs.toArray } (.lst (ns.map V.int)) := by
  rcases topH_or (K := K) (a := a) (b := b) (vs := vs) (ns := ns) with q | ⟨q1, q2, q3⟩
  · rw [q] at e; cases e
  · rw [q3] at e; exact ⟨q1, q2, (Option.some.inj e).symm⟩
theorem topG {P : Program} {w : World} {K : PySem.W.Frag} {mg mb : Str → Option Value} {CX : CXT} {k : Nat} {fa a : Addr} {fd : FuncData} {x : Str} {sp : Sp} {z : Shared} {vs : List Value} {ns : List Int}
    (kin : K.In z.heap) (gls : z.heap.Ns mainGlobals mg) (blt : z.heap.Ns builtinsNs mb) (blt2 : ∀ y : Str, y ≠ "__name__" → mb y = bootBuiltins y) (nol : z.heap.NoLimit) (gen : z.gens = #[])
    (scr : z.heap.get? a = some { cls := .type "list", data := .seq vs.toArray }) (isn : IntsAre vs ns) (ln : ns.length ≤ sizeLine) (room : Room k callerA)
    (F : ∀ base : Heap, K.In base → base.Ns mainGlobals mg → GOk P w K mg base CX k fa fd [x] sp) (bnd : ∀ (s : Shared) (u : Value), BindsTo s fd ⟨[u], []⟩ [(x, u)])
    (told : ∀ H : Hp, Only H → SqL K H a (ns.map V.int) → sp [.ref a] H (fun v _ => v = .bl true) fun _ _ _ => False)
    (way : ∀ H e s', CX [] H z (fun _ _ _ => False) e s' → False) :
    codeAny (model P w) callerA (.call (.ref fa) ⟨[.ref a], []⟩) (fun r s' => r = .ok (.ret (.bool true)) ∧ OldK z.heap s'.heap ∧ s'.os = z.os ∧ AllBare s'.gens) z := by
  have rv := vals_ints isn
  have same := isn.length
  let H : Hp := topH K a vs ns
  have off : ∀ {b : Addr} {o : Obj}, K.lookup b = some o → H b = none := fun {b o} e => by
    rcases topH_or (K := K) (a := a) (b := b) (vs := vs) (ns := ns) with q | ⟨rfl, q2, _⟩
    · exact q
    · rw [q2] at e; cases e
  have offd : ∀ {b : Addr} {o : Obj} {es : Array DictEntry} {ep : Nat}, z.heap.get? b = some o → o.data = .dict es ep → H b = none := fun {b o es ep} e d => by
    rcases topH_or (K := K) (a := a) (b := b) (vs := vs) (ns := ns) with q | ⟨rfl, _, _⟩
    · exact q
    · rw [scr] at e
      cases e
      exact nomatch d
  have nsK : ∀ {b : Addr} {m : Str → Option Value}, z.heap.Ns b m → (hidT z.heap H).Ns b m := fun {b m} ⟨o, es, ep, e, d, r⟩ => ⟨o, es, ep, hidT_get e (offd e d), d, r⟩
  have kinB : K.In (hidT z.heap H) := fun b o e => hidT_get (kin b o e) (off e)
  have only : Only H := fun b => by
    rcases topH_or (K := K) (a := a) (b := b) (vs := vs) (ns := ns) with q | ⟨_, _, q⟩
    · exact .inl q
    · exact .inr ⟨_, _, q⟩
  have hok : HOk P w H z.heap := fun b u e => by
    obtain ⟨rfl, _, rfl⟩ := topH_of (b := b) e
    exact ⟨scr, by rw [List.length_map]; exact ln, vs, _, rv, scr⟩
  have seq : SqL K H a (ns.map V.int) := by
    cases lk : K.lookup a with
    | none => exact .inl (.inr ⟨_, if_pos ⟨rfl, lk⟩⟩)
    | some o =>
      have e := kin a o lk
      rw [scr] at e
      cases e
      exact .inr ⟨_, vs.toArray, _, lk, rfl, rfl, rfl, by rw [List.size_toArray, same]; exact ln, by simpa using rv⟩
  have mod : Mod K mg (hidT z.heap H) := ⟨kinB, nsK gls, ⟨mb, nsK blt, blt2⟩, let ⟨mc, h1, h2⟩ := nol; ⟨mc, nsK h1, h2⟩⟩
  have e0 : Env0 P w K mg (hidT z.heap H) callerA [] z H := ⟨rfl, mod, fun b o e => of_hidT e, Nat.le_of_eq (hidT_size _ _), trivial, fun b hb => absurd (show b ∈ ([] : List Addr) from hb) (by simp), hok, .of_eq gen⟩
  refine codeAny_mono ((F _ kinB (nsK gls)).goes callerA [] z H ⟨[.ref a], []⟩ [.ref a] [.ref a] _ _ rfl room e0 (bnd z (.ref a)) (.cons rfl .nil) (told H only seq)) fun r s' got => ?_
  match r, got with
  | .error e, got => exact (way H e s' got).elim
  | .ok .next, got => exact got.elim
  | .ok .brk, got => exact got.elim
  | .ok .cont, got => exact got.elim
  | .ok (.ret u), ⟨v, H2, os, bare, un, hok2, r2, q⟩ =>
    have q : v = .bl true := q
    subst q
    obtain rfl : u = Value.bool true := r2
    refine ⟨rfl, OldK.of_keep fun b o e => ?_, os, bare⟩
    rcases only b with q | ⟨ob, xs, q⟩
    · exact un.keep b o e q (by intro y; exact absurd (show b ∈ ([] : List Addr) from y) (by simp)) (by simp)
    · have q2 := un.frzs b ob _ q
      have l1 := (hok b _ q).1
      have l2 := (hok2 b _ q2).1
      rw [e] at l1
      cases l1
      exact l2
theorem walk_G {l : PySem.W.OpenLaw} {n k : Nat} {q : Program} {loose : List Str} {XP : (Str → Option Value) → Heap → Prop} {YP : World → Heap → Prop} {d : DefRec} {K : Params → PySem.W.Frag} {CX : World → CXT} {sp : World → Sp} {x : Str}
    (most : l.most = some n) (small : n ≤ sizeLine) (nodef : d.params.defaults = []) (room : Room k callerA)
    (hY : ∀ (w : World) (h : Heap), YP w h → (K w.params).In h)
    (F : ∀ (w : World) (mg : Str → Option Value) (fa : Addr) (h : Heap), (K w.params).In h → h.Ns mainGlobals mg → mg d.name = some (.ref fa) →
      ∃ fd : FuncData, (∀ (s : Shared) (u : Value), BindsTo s fd ⟨[u], []⟩ [(x, u)]) ∧
        ∀ base : Heap, (K w.params).In base → base.Ns mainGlobals mg → GOk l.prog w (K w.params) mg base (CX w) k fa fd [x] (sp w))
    (told : ∀ (w : World) (H : Hp) (a : Addr) (ns : List Int), ns.length ≤ n → Only H → SqL (K w.params) H a (ns.map V.int) → sp w [.ref a] H (fun v _ => v = .bl true) fun _ _ _ => False)
    (way : ∀ (w : World) (H : Hp) (s : Shared) (e : Value) (s' : Shared), CX w [] H s (fun _ _ _ => False) e s' → False) :
    PySem.W.WalkO q loose XP YP l.row.toRowW d [] (fun f vs => PySem.call f vs) := by
  refine Att.attach_call most nodef fun w s0 s1 mg mb fa o pm cd doc a vs ns gr Y look dat rec_ name scr isn ln gen => ?_
  obtain ⟨fd, bnd, goes⟩ := F w mg fa _ (hY w _ Y) gr.T.g name
  exact topG (hY w _ Y) gr.T.g gr.T.b gr.T.builtins gr.T.nolimit gen scr isn (Nat.le_trans ln small) room goes bnd (fun H h1 h2 => told w H a ns ln h1 h2) fun H e s' => way w H s1 e s'
end GA
/-! ## GWT -/
namespace GA
open PySem PySem.Spec PyProof.Rows L2
/-! ### a written dict of texts, found by the head -/
def entB (e : DictEntry) (kv : Str × Str) : Bool := match e.key, e.val with
  | .str x _, .str y _ => decide (x = kv.1) && decide (y = kv.2)
  | _, _ => false
def entsB : List DictEntry → List (Str × Str) → Bool
  | [], [] => true
  | e :: es, kv :: kvs => entB e kv && entsB es kvs
  | _, _ => false
theorem entB_is {e : DictEntry} {kv : Str × Str} (h : entB e kv = true) : ∃ t u, e.key = .str kv.1 t ∧ e.val = .str kv.2 u := by
  unfold entB at h
  split at h
  · rename_i x t y u q1 q2
    rw [Bool.and_eq_true, decide_eq_true_eq, decide_eq_true_eq] at h
    exact ⟨t, u, by rw [q1, h.1], by rw [q2, h.2]⟩
  · cases h
theorem isStr_key {x z : Str} {t : Tok} : (Value.str x t).isStr z = decide (x = z) := by
  first
    | rfl
    | (by_cases e : x = z <;> simp [Value.isStr, e])
theorem ents_find {z : Str} : ∀ {es : List DictEntry} {tab : List (Str × Str)}, entsB es tab = true →
    (es.find? (·.key.isStr z) = none ∧ tab.lookup z = none) ∨ ∃ e f t, es.find? (·.key.isStr z) = some e ∧ e.val = .str f t ∧ tab.lookup z = some f
  | [], [], _ => .inl ⟨rfl, rfl⟩
  | [], _ :: _, h => Bool.noConfusion (show false = true from h)
  | _ :: _, [], h => Bool.noConfusion (show false = true from h)
  | e :: es, kv :: kvs, h => by
    rw [entsB, Bool.and_eq_true] at h
    obtain ⟨t, u, q1, q2⟩ := entB_is h.1
    by_cases c : kv.1 = z
    · refine .inr ⟨e, kv.2, u, ?_, q2, ?_⟩
      · rw [List.find?_cons, q1, isStr_key, decide_eq_true c]
      · have b : (z == kv.1) = true := by simpa using c.symm
        rw [List.lookup_cons, b]
    · have b : (z == kv.1) = false := by simpa using fun y => c y.symm
      rw [List.find?_cons, q1, isStr_key, decide_eq_false c, List.lookup_cons, b]
      exact ents_find h.2
theorem ents_ref : ∀ {es : List DictEntry} {tab : List (Str × Str)}, entsB es tab = true → es.any (·.refKey) = false
  | [], [], _ => rfl
  | [], _ :: _, h => Bool.noConfusion (show false = true from h)
  | _ :: _, [], h => Bool.noConfusion (show false = true from h)
  | e :: es, kv :: kvs, h => by
    rw [entsB, Bool.and_eq_true] at h
    obtain ⟨t, u, q1, q2⟩ := entB_is h.1
    have r : e.refKey = false := by
      first
        | (unfold DictEntry.refKey; rw [q1])
        | simp [DictEntry.refKey, q1]
    rw [List.any_cons, r, ents_ref h.2]
    rfl
theorem wrd_of {K : PySem.W.Frag} {w : World} {d : Addr} {es : Array DictEntry} {n : Nat} {tab : List (Str × Str)} (h1 : K.lookup d = some ⟨.type "dict", none, .dict es n, #[]⟩)
    (h2 : es.toList.map He.keyOf = He.keysIn w.params (tab.map (·.1))) (h3 : (d == sysModules) = false) (h4 : entsB es.toList tab = true) : WrD K w d tab := by
  refine ⟨es, n, ⟨h1, He.keysLit_of h2, h3⟩, fun z => ?_⟩
  unfold PySem.W.nsIn
  rw [h1]
  rcases ents_find (z := z) h4 with ⟨e1, e2⟩ | ⟨e, f, t, e1, e2, e3⟩
  · refine .inl ⟨?_, e2⟩
    show (match es.toList.find? (·.key.isStr z) with
      | some e => some (some e.val)
      | none => if es.toList.any (·.refKey) = true then none else some none) = some none
    rw [e1]
    show (if es.toList.any (·.refKey) = true then none else some none) = some (none : Option Value)
    rw [ents_ref h4, if_neg Bool.false_ne_true]
  · refine .inr ⟨f, t, ?_, e3⟩
    show (match es.toList.find? (·.key.isStr z) with
      | some e => some (some e.val)
      | none => if es.toList.any (·.refKey) = true then none else some none) = some (some (Value.str f t))
    rw [e1]
    show some (some e.val) = _
    rw [e2]
end GA
/-! ## KH -/
namespace Mine
open PySem L2 GA
def top (i : Nat) : Stmt := PySem.Challenge.pw_growalong_k27_programs_judged_and_compar.main.body.getD i (.Pass ⟨0, 0, 0, 0⟩)
abbrev s_BadWeb_init : Stmt := inClass (top 2) 0
abbrev P_BadWeb_init : List Str := ["self", "part"]
abbrev s_BadProgram_init : Stmt := inClass (top 3) 0
abbrev N_BadProgram_init : List Str := ["self", "part", "at"]
abbrev P_BadProgram_init : List Str := ["self", "part", "at"]
theorem sc_BadProgram_init : FnScope N_BadProgram_init P_BadProgram_init (defScope s_BadProgram_init) := ⟨rfl, rfl, rfl, by decide +kernel, rfl, by decide +kernel, by decide +kernel⟩
abbrev s_is_integer : Stmt := top 5
abbrev N_is_integer : List Str := ["thing"]
abbrev P_is_integer : List Str := ["thing"]
theorem sc_is_integer : FnScope N_is_integer P_is_integer (defScope s_is_integer) := ⟨rfl, rfl, rfl, by decide +kernel, rfl, by decide +kernel, by decide +kernel⟩
abbrev s_is_between : Stmt := top 6
abbrev N_is_between : List Str := ["low", "high", "thing"]
abbrev P_is_between : List Str := ["low", "high", "thing"]
theorem sc_is_between : FnScope N_is_between P_is_between (defScope s_is_between) := ⟨rfl, rfl, rfl, by decide +kernel, rfl, by decide +kernel, by decide +kernel⟩
abbrev s_is_below : Stmt := top 7
abbrev N_is_below : List Str := ["bound", "thing"]
abbrev P_is_below : List Str := ["bound", "thing"]
theorem sc_is_below : FnScope N_is_below P_is_below (defScope s_is_below) := ⟨rfl, rfl, rfl, by decide +kernel, rfl, by decide +kernel, by decide +kernel⟩
abbrev s_is_tuple_of : Stmt := top 8
abbrev N_is_tuple_of : List Str := ["least", "most", "thing"]
abbrev P_is_tuple_of : List Str := ["least", "most", "thing"]
theorem sc_is_tuple_of : FnScope N_is_tuple_of P_is_tuple_of (defScope s_is_tuple_of) := ⟨rfl, rfl, rfl, by decide +kernel, rfl, by decide +kernel, by decide +kernel⟩
abbrev s_are_below : Stmt := top 9
abbrev P_are_below : List Str := ["bound", "things"]
abbrev s_is_unlike_pair : Stmt := top 10
abbrev P_is_unlike_pair : List Str := ["bound", "thing"]
abbrev s_Web_init : Stmt := inClass (top 13) 0
abbrev N_Web_init : List Str := ["self", "machines", "wires", "at"]
abbrev P_Web_init : List Str := ["self", "machines", "wires"]
theorem sc_Web_init : FnScope N_Web_init P_Web_init (defScope s_Web_init) := ⟨rfl, rfl, rfl, by decide +kernel, rfl, by decide +kernel, by decide +kernel⟩
abbrev s_Web_eq : Stmt := inClass (top 13) 1
abbrev P_Web_eq : List Str := ["self", "other"]
abbrev s_first_wrong_wire : Stmt := top 14
abbrev N_first_wrong_wire : List Str := ["machines", "wires", "at", "wire"]
abbrev P_first_wrong_wire : List Str := ["machines", "wires"]
theorem sc_first_wrong_wire : FnScope N_first_wrong_wire P_first_wrong_wire (defScope s_first_wrong_wire) := ⟨rfl, rfl, rfl, by decide +kernel, rfl, by decide +kernel, by decide +kernel⟩
abbrev s_Program_init : Stmt := inClass (top 21) 0
abbrev N_Program_init : List Str := ["self", "owners", "codes"]
abbrev P_Program_init : List Str := ["self", "owners", "codes"]
theorem sc_Program_init : FnScope N_Program_init P_Program_init (defScope s_Program_init) := ⟨rfl, rfl, rfl, by decide +kernel, rfl, by decide +kernel, by decide +kernel⟩
abbrev s_Program_eq : Stmt := inClass (top 21) 1
abbrev N_Program_eq : List Str := ["self", "other"]
abbrev P_Program_eq : List Str := ["self", "other"]
theorem sc_Program_eq : FnScope N_Program_eq P_Program_eq (defScope s_Program_eq) := ⟨rfl, rfl, rfl, by decide +kernel, rfl, by decide +kernel, by decide +kernel⟩
abbrev s_check_program : Stmt := top 22
abbrev N_check_program : List Str := ["owners", "codes", "cell", "owner", "machine", "code", "own", "at", "row"]
abbrev P_check_program : List Str := ["owners", "codes"]
theorem sc_check_program : FnScope N_check_program P_check_program (defScope s_check_program) := ⟨rfl, rfl, rfl, by decide +kernel, rfl, by decide +kernel, by decide +kernel⟩
abbrev s_is_row : Stmt := top 23
abbrev N_is_row : List Str := ["own", "rows", "thing", "form", "letter", "part"]
abbrev P_is_row : List Str := ["own", "rows", "thing"]
theorem sc_is_row : FnScope N_is_row P_is_row (defScope s_is_row) := ⟨rfl, rfl, rfl, by decide +kernel, rfl, by decide +kernel, by decide +kernel⟩
abbrev s_fits : Stmt := top 24
abbrev N_fits : List Str := ["letter", "own", "rows", "thing"]
abbrev P_fits : List Str := ["letter", "own", "rows", "thing"]
theorem sc_fits : FnScope N_fits P_fits (defScope s_fits) := ⟨rfl, rfl, rfl, by decide +kernel, rfl, by decide +kernel, by decide +kernel⟩
abbrev s__law_pool : Stmt := top 26
abbrev N__law_pool : List Str := ["_law_script", "_law_seed", "_law_cell"]
abbrev P__law_pool : List Str := ["_law_script"]
theorem sc__law_pool : FnScope N__law_pool P__law_pool (defScope s__law_pool) := ⟨rfl, rfl, rfl, by decide +kernel, rfl, by decide +kernel, by decide +kernel⟩
abbrev s__law_draw : Stmt := top 27
abbrev N__law_draw : List Str := ["_law_pool_here", "_law_many", "_law_cells", "_law_digit", "_law_mixed"]
abbrev P__law_draw : List Str := ["_law_pool_here", "_law_many"]
theorem sc__law_draw : FnScope N__law_draw P__law_draw (defScope s__law_draw) := ⟨rfl, rfl, rfl, by decide +kernel, rfl, by decide +kernel, by decide +kernel⟩
abbrev s__law_deep : Stmt := top 28
abbrev N__law_deep : List Str := ["_law_thing", "_law_turn"]
abbrev P__law_deep : List Str := []
theorem sc__law_deep : FnScope N__law_deep P__law_deep (defScope s__law_deep) := ⟨rfl, rfl, rfl, by decide +kernel, rfl, by decide +kernel, by decide +kernel⟩
abbrev s__law_is : Stmt := top 29
abbrev N__law_is : List Str := ["_law_told", "_law_due_here"]
abbrev P__law_is : List Str := ["_law_told", "_law_due_here"]
theorem sc__law_is : FnScope N__law_is P__law_is (defScope s__law_is) := ⟨rfl, rfl, rfl, by decide +kernel, rfl, by decide +kernel, by decide +kernel⟩
abbrev s__law_row : Stmt := top 30
abbrev N__law_row : List Str := ["_law_pool_here", "_law_owners", "_law_machine", "_law_size", "_law_cell", "_law_own", "_law_one", "_law_two", "_law_three", "_law_goal", "_law_kind", "_law_number", "_law_rows"]
abbrev P__law_row : List Str := ["_law_pool_here", "_law_owners", "_law_machine", "_law_size"]
theorem sc__law_row : FnScope N__law_row P__law_row (defScope s__law_row) := ⟨rfl, rfl, rfl, by decide +kernel, rfl, by decide +kernel, by decide +kernel⟩
abbrev s__law_program : Stmt := top 31
abbrev N__law_program : List Str := ["_law_pool_here", "_law_machines", "_law_most", "_law_owners", "_law_codes", "_law_machine", "_law_size", "_law_cell", "_law_at"]
abbrev P__law_program : List Str := ["_law_pool_here", "_law_machines", "_law_most"]
theorem sc__law_program : FnScope N__law_program P__law_program (defScope s__law_program) := ⟨rfl, rfl, rfl, by decide +kernel, rfl, by decide +kernel, by decide +kernel⟩
abbrev s__law_is_int : Stmt := top 32
abbrev N__law_is_int : List Str := ["_law_thing", "_law_least", "_law_most"]
abbrev P__law_is_int : List Str := ["_law_thing", "_law_least", "_law_most"]
theorem sc__law_is_int : FnScope N__law_is_int P__law_is_int (defScope s__law_is_int) := ⟨rfl, rfl, rfl, by decide +kernel, rfl, by decide +kernel, by decide +kernel⟩
abbrev s__law_is_row : Stmt := top 33
abbrev N__law_is_row : List Str := ["_law_owners", "_law_machine", "_law_size", "_law_thing", "_law_forms", "_law_form", "_law_kind", "_law_part", "_law_most", "_law_one"]
abbrev P__law_is_row : List Str := ["_law_owners", "_law_machine", "_law_size", "_law_thing"]
theorem sc__law_is_row : FnScope N__law_is_row P__law_is_row (defScope s__law_is_row) := ⟨rfl, rfl, rfl, by decide +kernel, rfl, by decide +kernel, by decide +kernel⟩
abbrev s__law_due : Stmt := top 34
abbrev N__law_due : List Str := ["_law_owners", "_law_codes", "_law_cell", "_law_machine", "_law_at"]
abbrev P__law_due : List Str := ["_law_owners", "_law_codes"]
theorem sc__law_due : FnScope N__law_due P__law_due (defScope s__law_due) := ⟨rfl, rfl, rfl, by decide +kernel, rfl, by decide +kernel, by decide +kernel⟩
abbrev s__law_tried : Stmt := top 35
abbrev N__law_tried : List Str := ["_law_owners", "_law_codes", "_law_found", "_law_made", "e"]
abbrev P__law_tried : List Str := ["_law_owners", "_law_codes"]
theorem sc__law_tried : FnScope N__law_tried P__law_tried (defScope s__law_tried) := ⟨rfl, rfl, rfl, by decide +kernel, rfl, by decide +kernel, by decide +kernel⟩
abbrev s__law_bent_row : Stmt := top 36
abbrev N__law_bent_row : List Str := ["_law_pool_here", "_law_row_here", "_law_size", "_law_at", "_law_odd", "_law_part", "_law_words", "_law_some"]
abbrev P__law_bent_row : List Str := ["_law_pool_here", "_law_row_here", "_law_size"]
theorem sc__law_bent_row : FnScope N__law_bent_row P__law_bent_row (defScope s__law_bent_row) := ⟨rfl, rfl, rfl, by decide +kernel, rfl, by decide +kernel, by decide +kernel⟩
abbrev s__law_bent_codes : Stmt := top 37
abbrev N__law_bent_codes : List Str := ["_law_pool_here", "_law_codes", "_law_machine", "_law_code", "_law_at", "_law_odd", "_law_some"]
abbrev P__law_bent_codes : List Str := ["_law_pool_here", "_law_codes"]
theorem sc__law_bent_codes : FnScope N__law_bent_codes P__law_bent_codes (defScope s__law_bent_codes) := ⟨rfl, rfl, rfl, by decide +kernel, rfl, by decide +kernel, by decide +kernel⟩
abbrev s__law_bent_owners : Stmt := top 38
abbrev N__law_bent_owners : List Str := ["_law_pool_here", "_law_owners", "_law_machines", "_law_at", "_law_odd", "_law_some"]
abbrev P__law_bent_owners : List Str := ["_law_pool_here", "_law_owners", "_law_machines"]
theorem sc__law_bent_owners : FnScope N__law_bent_owners P__law_bent_owners (defScope s__law_bent_owners) := ⟨rfl, rfl, rfl, by decide +kernel, rfl, by decide +kernel, by decide +kernel⟩
abbrev s_law : Stmt := top 39
abbrev N_law : List Str := ["_law_script", "_law_pool_here", "_law_specs", "_law_turn", "_law_machines", "_law_owners", "_law_codes", "_law_one", "_law_other", "_law_made"]
abbrev P_law : List Str := ["_law_script"]
theorem sc_law : FnScope N_law P_law (defScope s_law) := ⟨rfl, rfl, rfl, by decide +kernel, rfl, by decide +kernel, by decide +kernel⟩
abbrev tab_FORMS : List (Str × Str) := [("set", "rn"), ("copy", "rr"), ("add", "rrr"), ("take", "rrr"), ("put", "or"), ("look", "rc"), ("tell", "r"), ("rest", ""), ("same", "rrt"), ("less", "rrt"), ("go", "t"), ("call", "t"), ("back", "")]
structure Ads where
  f_BadWeb_init : Addr
  d_BadWeb_init : FuncData
  f_BadProgram_init : Addr
  d_BadProgram_init : FuncData
  f_is_integer : Addr
  d_is_integer : FuncData
  f_is_between : Addr
  d_is_between : FuncData
  f_is_below : Addr
  d_is_below : FuncData
  f_is_tuple_of : Addr
  d_is_tuple_of : FuncData
  f_are_below : Addr
  d_are_below : FuncData
  f_is_unlike_pair : Addr
  d_is_unlike_pair : FuncData
  f_Web_init : Addr
  d_Web_init : FuncData
  f_Web_eq : Addr
  d_Web_eq : FuncData
  f_first_wrong_wire : Addr
  d_first_wrong_wire : FuncData
  f_Program_init : Addr
  d_Program_init : FuncData
  f_Program_eq : Addr
  d_Program_eq : FuncData
  f_check_program : Addr
  d_check_program : FuncData
  f_is_row : Addr
  d_is_row : FuncData
  f_fits : Addr
  d_fits : FuncData
  f__law_pool : Addr
  d__law_pool : FuncData
  f__law_draw : Addr
  d__law_draw : FuncData
  f__law_deep : Addr
  d__law_deep : FuncData
  f__law_is : Addr
  d__law_is : FuncData
  f__law_row : Addr
  d__law_row : FuncData
  f__law_program : Addr
  d__law_program : FuncData
  f__law_is_int : Addr
  d__law_is_int : FuncData
  f__law_is_row : Addr
  d__law_is_row : FuncData
  f__law_due : Addr
  d__law_due : FuncData
  f__law_tried : Addr
  d__law_tried : FuncData
  f__law_bent_row : Addr
  d__law_bent_row : FuncData
  f__law_bent_codes : Addr
  d__law_bent_codes : FuncData
  f__law_bent_owners : Addr
  d__law_bent_owners : FuncData
  f_law : Addr
  d_law : FuncData
  c_GrowError : Addr
  c_BadWeb : Addr
  c_BadProgram : Addr
  c_Web : Addr
  c_Program : Addr
  t_MOST_MACHINES : Tok
  t_MOST_CELLS : Tok
  t_MOST_ROWS : Tok
  t_MOST_SET : Tok
  t_REGISTERS : Tok
  o_FORMS : Addr
structure Txt (w : World) (K : PySem.W.Frag) (mg : Str → Option Value) (a : Ads) : Prop where
  F_BadWeb_init : Fun K "__init__" "BadWeb.__init__" s_BadWeb_init a.f_BadWeb_init a.d_BadWeb_init
  b_BadWeb_init : Binds K a.d_BadWeb_init P_BadWeb_init []
  F_BadProgram_init : Fun K "__init__" "BadProgram.__init__" s_BadProgram_init a.f_BadProgram_init a.d_BadProgram_init
  b_BadProgram_init : Binds K a.d_BadProgram_init P_BadProgram_init []
  F_is_integer : Fun K "is_integer" "is_integer" s_is_integer a.f_is_integer a.d_is_integer
  b_is_integer : Binds K a.d_is_integer P_is_integer []
  m_is_integer : mg "is_integer" = some (.ref a.f_is_integer)
  F_is_between : Fun K "is_between" "is_between" s_is_between a.f_is_between a.d_is_between
  b_is_between : Binds K a.d_is_between P_is_between []
  m_is_between : mg "is_between" = some (.ref a.f_is_between)
  F_is_below : Fun K "is_below" "is_below" s_is_below a.f_is_below a.d_is_below
  b_is_below : Binds K a.d_is_below P_is_below []
  m_is_below : mg "is_below" = some (.ref a.f_is_below)
  F_is_tuple_of : Fun K "is_tuple_of" "is_tuple_of" s_is_tuple_of a.f_is_tuple_of a.d_is_tuple_of
  b_is_tuple_of : Binds K a.d_is_tuple_of P_is_tuple_of []
  m_is_tuple_of : mg "is_tuple_of" = some (.ref a.f_is_tuple_of)
  F_are_below : Fun K "are_below" "are_below" s_are_below a.f_are_below a.d_are_below
  b_are_below : Binds K a.d_are_below P_are_below []
  m_are_below : mg "are_below" = some (.ref a.f_are_below)
  F_is_unlike_pair : Fun K "is_unlike_pair" "is_unlike_pair" s_is_unlike_pair a.f_is_unlike_pair a.d_is_unlike_pair
  b_is_unlike_pair : Binds K a.d_is_unlike_pair P_is_unlike_pair []
  m_is_unlike_pair : mg "is_unlike_pair" = some (.ref a.f_is_unlike_pair)
  F_Web_init : Fun K "__init__" "Web.__init__" s_Web_init a.f_Web_init a.d_Web_init
  b_Web_init : Binds K a.d_Web_init P_Web_init []
  F_Web_eq : Fun K "__eq__" "Web.__eq__" s_Web_eq a.f_Web_eq a.d_Web_eq
  b_Web_eq : Binds K a.d_Web_eq P_Web_eq []
  F_first_wrong_wire : Fun K "first_wrong_wire" "first_wrong_wire" s_first_wrong_wire a.f_first_wrong_wire a.d_first_wrong_wire
  b_first_wrong_wire : Binds K a.d_first_wrong_wire P_first_wrong_wire []
  m_first_wrong_wire : mg "first_wrong_wire" = some (.ref a.f_first_wrong_wire)
  F_Program_init : Fun K "__init__" "Program.__init__" s_Program_init a.f_Program_init a.d_Program_init
  b_Program_init : Binds K a.d_Program_init P_Program_init []
  F_Program_eq : Fun K "__eq__" "Program.__eq__" s_Program_eq a.f_Program_eq a.d_Program_eq
  b_Program_eq : Binds K a.d_Program_eq P_Program_eq []
  F_check_program : Fun K "check_program" "check_program" s_check_program a.f_check_program a.d_check_program
  b_check_program : Binds K a.d_check_program P_check_program []
  m_check_program : mg "check_program" = some (.ref a.f_check_program)
  F_is_row : Fun K "is_row" "is_row" s_is_row a.f_is_row a.d_is_row
  b_is_row : Binds K a.d_is_row P_is_row []
  m_is_row : mg "is_row" = some (.ref a.f_is_row)
  F_fits : Fun K "fits" "fits" s_fits a.f_fits a.d_fits
  b_fits : Binds K a.d_fits P_fits []
  m_fits : mg "fits" = some (.ref a.f_fits)
  F__law_pool : Fun K "_law_pool" "_law_pool" s__law_pool a.f__law_pool a.d__law_pool
  b__law_pool : Binds K a.d__law_pool P__law_pool []
  m__law_pool : mg "_law_pool" = some (.ref a.f__law_pool)
  F__law_draw : Fun K "_law_draw" "_law_draw" s__law_draw a.f__law_draw a.d__law_draw
  b__law_draw : Binds K a.d__law_draw P__law_draw []
  m__law_draw : mg "_law_draw" = some (.ref a.f__law_draw)
  F__law_deep : Fun K "_law_deep" "_law_deep" s__law_deep a.f__law_deep a.d__law_deep
  b__law_deep : Binds K a.d__law_deep P__law_deep []
  m__law_deep : mg "_law_deep" = some (.ref a.f__law_deep)
  F__law_is : Fun K "_law_is" "_law_is" s__law_is a.f__law_is a.d__law_is
  b__law_is : Binds K a.d__law_is P__law_is []
  m__law_is : mg "_law_is" = some (.ref a.f__law_is)
  F__law_row : Fun K "_law_row" "_law_row" s__law_row a.f__law_row a.d__law_row
  b__law_row : Binds K a.d__law_row P__law_row []
  m__law_row : mg "_law_row" = some (.ref a.f__law_row)
  F__law_program : Fun K "_law_program" "_law_program" s__law_program a.f__law_program a.d__law_program
  b__law_program : Binds K a.d__law_program P__law_program []
  m__law_program : mg "_law_program" = some (.ref a.f__law_program)
  F__law_is_int : Fun K "_law_is_int" "_law_is_int" s__law_is_int a.f__law_is_int a.d__law_is_int
  b__law_is_int : Binds K a.d__law_is_int P__law_is_int []
  m__law_is_int : mg "_law_is_int" = some (.ref a.f__law_is_int)
  F__law_is_row : Fun K "_law_is_row" "_law_is_row" s__law_is_row a.f__law_is_row a.d__law_is_row
  b__law_is_row : Binds K a.d__law_is_row P__law_is_row []
  m__law_is_row : mg "_law_is_row" = some (.ref a.f__law_is_row)
  F__law_due : Fun K "_law_due" "_law_due" s__law_due a.f__law_due a.d__law_due
  b__law_due : Binds K a.d__law_due P__law_due []
  m__law_due : mg "_law_due" = some (.ref a.f__law_due)
  F__law_tried : Fun K "_law_tried" "_law_tried" s__law_tried a.f__law_tried a.d__law_tried
  b__law_tried : Binds K a.d__law_tried P__law_tried []
  m__law_tried : mg "_law_tried" = some (.ref a.f__law_tried)
  F__law_bent_row : Fun K "_law_bent_row" "_law_bent_row" s__law_bent_row a.f__law_bent_row a.d__law_bent_row
  b__law_bent_row : Binds K a.d__law_bent_row P__law_bent_row []
  m__law_bent_row : mg "_law_bent_row" = some (.ref a.f__law_bent_row)
  F__law_bent_codes : Fun K "_law_bent_codes" "_law_bent_codes" s__law_bent_codes a.f__law_bent_codes a.d__law_bent_codes
  b__law_bent_codes : Binds K a.d__law_bent_codes P__law_bent_codes []
  m__law_bent_codes : mg "_law_bent_codes" = some (.ref a.f__law_bent_codes)
  F__law_bent_owners : Fun K "_law_bent_owners" "_law_bent_owners" s__law_bent_owners a.f__law_bent_owners a.d__law_bent_owners
  b__law_bent_owners : Binds K a.d__law_bent_owners P__law_bent_owners []
  m__law_bent_owners : mg "_law_bent_owners" = some (.ref a.f__law_bent_owners)
  F_law : Fun K "law" "law" s_law a.f_law a.d_law
  b_law : Binds K a.d_law P_law []
  m_law : mg "law" = some (.ref a.f_law)
  m_GrowError : mg "GrowError" = some (.ref a.c_GrowError)
  m_BadWeb : mg "BadWeb" = some (.ref a.c_BadWeb)
  m_BadProgram : mg "BadProgram" = some (.ref a.c_BadProgram)
  m_Web : mg "Web" = some (.ref a.c_Web)
  m_Program : mg "Program" = some (.ref a.c_Program)
  cl_Web : Cls K a.c_Web
  K_Web : Mk K a.c_Web a.f_Web_init
  ic_Web : C8.InsC K a.c_Web
  eqf_Web : PySem.W.findIn K (.ref a.c_Web) "__eq__" = some (some (.ref a.f_Web_eq))
  eqi_Web : PySem.W.isFn K (.ref a.f_Web_eq) = true
  ne_Web : PySem.W.findIn K (.ref a.c_Web) "__ne__" = some (some (.builtin "object.__ne__"))
  na_Web_machines : NoAttr K a.c_Web "machines"
  na_Web_wires : NoAttr K a.c_Web "wires"
  cl_Program : Cls K a.c_Program
  K_Program : Mk K a.c_Program a.f_Program_init
  ic_Program : C8.InsC K a.c_Program
  eqf_Program : PySem.W.findIn K (.ref a.c_Program) "__eq__" = some (some (.ref a.f_Program_eq))
  eqi_Program : PySem.W.isFn K (.ref a.f_Program_eq) = true
  ne_Program : PySem.W.findIn K (.ref a.c_Program) "__ne__" = some (some (.builtin "object.__ne__"))
  na_Program_owners : NoAttr K a.c_Program "owners"
  na_Program_codes : NoAttr K a.c_Program "codes"
  ox : OexC K a.c_BadProgram
  xi : PySem.W.findIn K (.ref a.c_BadProgram) "__init__" = some (some (.ref a.f_BadProgram_init))
  xt : PySem.W.typeIn K (.ref a.f_BadProgram_init) = some (.type "function")
  xf : XfC K a.c_BadProgram
  xp : PySem.W.findIn K (.ref a.c_BadProgram) "part" = some none
  xa : PySem.W.findIn K (.ref a.c_BadProgram) "at" = some none
  xc : ExcC K a.c_BadProgram
  xm : PySem.W.exmOne K (.ref a.c_BadProgram) (.ref a.c_BadProgram) = some true
  xg : PySem.W.kitOne K (.ref a.c_BadProgram) (.ref a.c_GrowError) = some true
  xv : PySem.W.kitOne K (.ref a.c_BadProgram) (.type "ValueError") = some true
  ik : InsK K a.c_Program
  wt : PySem.W.typeIn K (.ref a.c_Program) = some (.type "type")
  wk : PySem.W.kitOne K (.ref a.c_Web) (.ref a.c_Program) = some false
  m_MOST_MACHINES : mg "MOST_MACHINES" = some (.int 7 a.t_MOST_MACHINES)
  m_MOST_CELLS : mg "MOST_CELLS" = some (.int 8 a.t_MOST_CELLS)
  m_MOST_ROWS : mg "MOST_ROWS" = some (.int 60 a.t_MOST_ROWS)
  m_MOST_SET : mg "MOST_SET" = some (.int 1000000 a.t_MOST_SET)
  m_REGISTERS : mg "REGISTERS" = some (.int 8 a.t_REGISTERS)
  m_FORMS : mg "FORMS" = some (.ref a.o_FORMS)
  kd_FORMS : WrD K w a.o_FORMS tab_FORMS
  n_isinstance : mg "isinstance" = none
  n_int : mg "int" = none
  n_bool : mg "bool" = none
  n_tuple : mg "tuple" = none
  n_len : mg "len" = none
  n_all : mg "all" = none
  n_enumerate : mg "enumerate" = none
  n_str : mg "str" = none
  n_zip : mg "zip" = none
  n_sum : mg "sum" = none
  n_range : mg "range" = none
  n_repr : mg "repr" = none
  n_ValueError : mg "ValueError" = none
  n_list : mg "list" = none
  n_abs : mg "abs" = none
end Mine
/-! ## KT -/
namespace Mine
set_option maxHeartbeats 0 in
open_top tophead for PySem.Challenge.rw_growalong_k27_programs_judged_and_compar
end Mine
/-! ## K1 -/
section
open PySem L2 GA
local macro_rules
  | `(tactic| walk_at "w") => `(tactic| first
    | ((with_reducible refine' GA.w_var ?e ?_); (case e => exact rfl))
    | (with_reducible refine' GA.w_c ?_)
    | (with_reducible refine' GA.w_cons ?_)
    | (with_reducible refine' GA.w_nil ?_)
    | (with_reducible refine' GA.w_op ?_)
    | (with_reducible refine' GA.r_I0 ?_)
    | (with_reducible refine' GA.w_bl ?_)
    | (with_reducible refine' GA.w_seq ?_)
    | (with_reducible refine' GA.w_set ?_)
    | (with_reducible refine' GA.w_ret ?_)
    | (with_reducible refine' GA.w_ifS ?_)
    | (with_reducible refine' GA.w_test ?_)
    | (with_reducible refine' GA.w_tB ?_)
    | (with_reducible refine' GA.w_not ?_)
    | (with_reducible refine' GA.w_and ?_)
    | (with_reducible refine' GA.w_or ?_)
    | (with_reducible refine' GA.w_andV ?_)
    | (with_reducible refine' GA.w_orV ?_)
    | (with_reducible refine' GA.w_notV ?_)
    | (with_reducible refine' GA.w_blc ?_)
    | (with_reducible refine' GA.w_if ?_)
    | (with_reducible refine' GA.w_CB ?_)
    | (with_reducible refine' GA.w_call ?_)
    | (with_reducible refine' GA.w_tupN ?_)
    | (with_reducible refine' GA.w_lstN ?_)
    | (with_reducible refine' GA.w_chain ?_)
    | (with_reducible refine' GA.w_drop ?_)
    | (with_reducible refine' GA.w_next ?_)
    | (with_reducible refine' GA.w_break ?_)
    | (with_reducible refine' GA.w_un ?_)
    | (with_reducible refine' GA.r_U ?_)
    | (with_reducible refine' GA.r_eqI ?_)
    | (with_reducible refine' GA.r_neI ?_)
    | (with_reducible refine' GA.r_eqB ?_)
    | (with_reducible refine' GA.r_neB ?_)
    | (with_reducible refine' GA.w_fld ?_)
    | (with_reducible refine' GA.w_sfld ?_)
    | (with_reducible refine' GA.w_sl ?_)
    | (with_reducible refine' GA.w_part ?_)
    | (with_reducible refine' GA.w_noPart ?_)
    | (with_reducible refine' GA.w_inti ?_)
    | (with_reducible refine' GA.w_retN ?_)
    | (with_reducible refine' GA.w_gsub ?_)
    | (with_reducible refine' GA.w_gname ?_)
    | (with_reducible refine' L2.iteT ?_)
    | (with_reducible refine' L2.iteF ?_)
    | (with_reducible refine' GA.w_nt ?_)
    | (with_reducible refine' GA.w_nf ?_)
    | (with_reducible refine' GA.w_isN ?_)
    | (with_reducible refine' GA.w_notN ?_)
    | (with_reducible refine' GA.w_yes ?_)
    | (with_reducible refine' GA.w_lc ?_)
    | (with_reducible refine' GA.w_lc2 ?_)
    | (with_reducible refine' GA.w_iseq ?_)
    | (with_reducible refine' GA.w_make ?_)
    | (with_reducible refine' GA.w_for ?_)
    | (with_reducible refine' GA.w_rng1 ?_)
    | (with_reducible refine' GA.w_rng2 ?_)
    | (with_reducible refine' GA.w_itup ?_)
    | (with_reducible refine' GA.w_ilist ?_)
    | (with_reducible refine' GA.w_ienum ?_)
    | (with_reducible refine' GA.w_BM ?_)
    | (with_reducible refine' GA.w_BM0 ?_)
    | (with_reducible refine' GA.w_izip ?_)
    | (with_reducible refine' GA.w_asg ?_))
  | `(tactic| walk_at "wm") => `(tactic| first
    | ((with_reducible refine' GA.w_var ?e ?_); (case e => exact rfl))
    | (with_reducible refine' GA.w_c ?_)
    | (with_reducible refine' GA.w_cons ?_)
    | (with_reducible refine' GA.w_nil ?_)
    | (with_reducible refine' GA.w_op ?_)
    | (with_reducible refine' GA.r_I0 ?_)
    | (with_reducible refine' GA.w_bl ?_)
    | (with_reducible refine' GA.w_set ?_)
    | (with_reducible refine' GA.w_ret ?_)
    | (with_reducible refine' GA.w_ifS ?_)
    | (with_reducible refine' GA.w_test ?_)
    | (with_reducible refine' GA.w_tB ?_)
    | (with_reducible refine' GA.w_not ?_)
    | (with_reducible refine' GA.w_and ?_)
    | (with_reducible refine' GA.w_or ?_)
    | (with_reducible refine' GA.w_andV ?_)
    | (with_reducible refine' GA.w_orV ?_)
    | (with_reducible refine' GA.w_notV ?_)
    | (with_reducible refine' GA.w_blc ?_)
    | (with_reducible refine' GA.w_if ?_)
    | (with_reducible refine' GA.w_CB ?_)
    | (with_reducible refine' GA.w_call ?_)
    | (with_reducible refine' GA.w_tupN ?_)
    | (with_reducible refine' GA.w_lstN ?_)
    | (with_reducible refine' GA.w_chain ?_)
    | (with_reducible refine' GA.w_drop ?_)
    | (with_reducible refine' GA.w_next ?_)
    | (with_reducible refine' GA.w_break ?_)
    | (with_reducible refine' GA.w_un ?_)
    | (with_reducible refine' GA.r_U ?_)
    | (with_reducible refine' GA.r_eqI ?_)
    | (with_reducible refine' GA.r_neI ?_)
    | (with_reducible refine' GA.r_eqB ?_)
    | (with_reducible refine' GA.r_neB ?_)
    | (with_reducible refine' GA.w_fld ?_)
    | (with_reducible refine' GA.w_sfld ?_)
    | (with_reducible refine' GA.w_sl ?_)
    | (with_reducible refine' GA.w_part ?_)
    | (with_reducible refine' GA.w_noPart ?_)
    | (with_reducible refine' GA.w_inti ?_)
    | (with_reducible refine' GA.w_retN ?_)
    | (with_reducible refine' GA.w_gsub ?_)
    | (with_reducible refine' GA.w_gname ?_)
    | (with_reducible refine' L2.iteT ?_)
    | (with_reducible refine' L2.iteF ?_)
    | (with_reducible refine' GA.w_nt ?_)
    | (with_reducible refine' GA.w_nf ?_)
    | (with_reducible refine' GA.w_isN ?_)
    | (with_reducible refine' GA.w_notN ?_)
    | (with_reducible refine' GA.w_yes ?_)
    | (with_reducible refine' GA.w_lc ?_)
    | (with_reducible refine' GA.w_lc2 ?_)
    | (with_reducible refine' GA.w_iseq ?_)
    | (with_reducible refine' GA.w_make ?_)
    | (with_reducible refine' GA.w_for ?_)
    | (with_reducible refine' GA.w_rng1 ?_)
    | (with_reducible refine' GA.w_rng2 ?_)
    | (with_reducible refine' GA.w_itup ?_)
    | (with_reducible refine' GA.w_ilist ?_)
    | (with_reducible refine' GA.w_ienum ?_)
    | (with_reducible refine' GA.w_BM ?_)
    | (with_reducible refine' GA.w_BM0 ?_)
    | (with_reducible refine' GA.w_izip ?_)
    | (with_reducible refine' GA.w_asg ?_))
  | `(tactic| walk_at "ws") => `(tactic| repeat (walk_at "w"))
  | `(tactic| walk_at "wn") => `(tactic| repeat (walk_at "wm"))


namespace Mine
section
variable {P : Program} {w : World} {K : PySem.W.Frag} {mg : Str → Option Value} {base : Heap} {a : Ads}

theorem tyx_tup {H : Hp} {p : Addr} {xs : List V} (h : SqT K H p xs) : TyX K H (.ref p) (.type "tuple") := by
  rcases h with (h | ⟨o, h⟩) | ⟨o, its, n, h1, h2, _⟩
  · exact .base (.tup h)
  · exact .fTuple h
  · exact .kTuple h1 h2
theorem r_isi {x : V} {t : Value} {n : String} {b : Bool} {H : Hp} {Q : VK} (ty : TyX K H x t) (e : PySem.W.kitOne K t (.type n) = some b) (q : Q (.bl b) H) : rIsi K [x, .ty n] H Q := ⟨x, .ty n, t, .type n, b, rfl, .ty n, ty, e, q⟩
/-! ### any thing, judged -/
def isI : Tg → Bool
  | .int _ => true
  | _ => false
def btw (lo hi : Int) : Tg → Bool
  | .int i => decide (lo ≤ i) && decide (i ≤ hi)
  | _ => false
def blw (b : Int) : Tg → Bool
  | .int i => decide (0 ≤ i) && decide (i < b)
  | _ => false
def tsz (lo hi : Int) : Tg → Bool
  | .tup ts => decide (lo ≤ ts.length) && decide ((ts.length : Int) ≤ hi)
  | _ => false
def pr (b : Int) : Tg → Bool
  | .tup [.int x, .int y] => (blw b (.int x) && blw b (.int y)) && !decide (x = y)
  | _ => false
theorem isI_t {t : Tg} (e : isT "int" t = true) : isI t = !isT "bool" t := by
  cases t <;> first | rfl | exact Bool.noConfusion (show false = true from e)
theorem isI_f {t : Tg} (e : isT "int" t = false) : isI t = false := by
  cases t <;> first | rfl | exact Bool.noConfusion (show true = false from e)
theorem isI_int {C : Addr} {hd : Addr × Addr} {H : Hp} {v : V} {t : Tg} (h : Ab C hd H v t) (e : isI t = true) : ∃ i, t = .int i ∧ v = .int i := by
  cases h <;> first | exact ⟨_, rfl, rfl⟩ | exact Bool.noConfusion (show false = true from e)
theorem btw_f {lo hi : Int} {t : Tg} (e : isI t = false) : btw lo hi t = false := by
  cases t <;> first | rfl | exact Bool.noConfusion (show true = false from e)
def sp_is_integer (C : Addr) : Sp := fun vs H Q _ => ∃ (hd : Addr × Addr) (v : V) (t : Tg), vs = [v] ∧ Ab C hd H v t ∧ Q (.bl (isI t)) H
theorem ok_is_integer (T : Txt w K mg a) : FnOk P w K mg base CX0 1 a.f_is_integer a.d_is_integer P_is_integer (sp_is_integer a.c_Program) := by
  refine T.F_is_integer.ok sc_is_integer (fun vs H Q E h => by obtain ⟨hd, v, t, rfl, _⟩ := h; rfl) (fun cdv A outer s H vs Q E hr h => ?_)
  obtain ⟨hd, v, t, rfl, ha, k⟩ := h
  refine ⟨_, (pss_one (ps_ret (pe_and (pe_callB call_isi (by rfl) T.n_isinstance (by decide +kernel) (pa_cons (pv 0) (pa_cons (pe_bltn (v := .ty "int") (u := .type "int") rfl T.n_int (by decide +kernel) rfl) pa_nil))) (pe_one (pe_not (pe_callB call_isi (by rfl) T.n_isinstance (by decide +kernel) (pa_cons (pv 0) (pa_cons (pe_bltn (v := .ty "bool") (u := .type "bool") rfl T.n_bool (by decide +kernel) rfl) pa_nil)))))))), ?_⟩
  walk_at "ws"
  refine ab_isi T.ik ha (.inl rfl) ?_
  walk_at "ws"
  refine w_ite (fun e => ?_) (fun e => ?_)
  · walk_at "ws"
    refine ab_isi T.ik ha (.inr (.inl rfl)) ?_
    walk_at "ws"
    rw [isI_t e] at k
    exact k
  · rw [isI_f e] at k
    exact k

def sp_is_between (C : Addr) : Sp := fun vs H Q _ => ∃ (lo hi : Int) (hd : Addr × Addr) (v : V) (t : Tg), vs = [.int lo, .int hi, v] ∧ Ab C hd H v t ∧ Q (.bl (btw lo hi t)) H
theorem ok_is_between (T : Txt w K mg a) : FnOk P w K mg base CX0 2 a.f_is_between a.d_is_between P_is_between (sp_is_between a.c_Program) := by
  refine T.F_is_between.ok sc_is_between (fun vs H Q E h => by obtain ⟨lo, hi, hd, v, t, rfl, _⟩ := h; rfl) (fun cdv A outer s H vs Q E hr h => ?_)
  obtain ⟨lo, hi, hd, v, t, rfl, ha, k⟩ := h
  have G_is_integer : FnOk P w K mg base CX0 1 a.f_is_integer a.d_is_integer P_is_integer (sp_is_integer a.c_Program) := ok_is_integer T
  refine ⟨_, (pss_one (ps_ret (pe_and (pe_call (G_is_integer) (hr.mono (by omega)) rfl T.m_is_integer T.F_is_integer.kp T.b_is_integer .nil pass0 (pa_cons (pv 2) pa_nil)) (pe_one (pe_chain op_le op_le (pv 0) (pv 2) (pv 1)))))), ?_⟩
  walk_at "ws"
  refine ⟨hd, v, t, rfl, ha, ?_⟩
  walk_at "ws"
  refine w_ite (fun e => ?_) (fun e => ?_)
  · obtain ⟨i, rfl, rfl⟩ := isI_int ha e
    have k : Q (.bl (decide (lo ≤ i) && decide (i ≤ hi))) H := k
    walk_at "ws"
    refine w_ite (fun e => ?_) (fun e => ?_)
    · walk_at "ws"
      rw [e] at k
      exact k
    · rw [e] at k
      exact k
  · rw [btw_f e] at k
    exact k

def sp_is_below (C : Addr) : Sp := fun vs H Q _ => ∃ (b : Int) (hd : Addr × Addr) (v : V) (t : Tg), vs = [.int b, v] ∧ Ab C hd H v t ∧ Q (.bl (blw b t)) H
theorem ok_is_below (T : Txt w K mg a) : FnOk P w K mg base CX0 3 a.f_is_below a.d_is_below P_is_below (sp_is_below a.c_Program) := by
  refine T.F_is_below.ok sc_is_below (fun vs H Q E h => by obtain ⟨b, hd, v, t, rfl, _⟩ := h; rfl) (fun cdv A outer s H vs Q E hr h => ?_)
  obtain ⟨b, hd, v, t, rfl, ha, k⟩ := h
  have G_is_between : FnOk P w K mg base CX0 2 a.f_is_between a.d_is_between P_is_between (sp_is_between a.c_Program) := ok_is_between T
  refine ⟨_, (pss_one (ps_ret (pe_call (G_is_between) (hr.mono (by omega)) rfl T.m_is_between T.F_is_between.kp T.b_is_between .nil pass0 (pa_cons pe_int (pa_cons (pe_op op_sub (pv 0) pe_int) (pa_cons (pv 1) pa_nil)))))), ?_⟩
  walk_at "ws"
  refine ⟨_, _, hd, v, t, rfl, ha, ?_⟩
  have e : btw 0 (b - 1) t = blw b t := by
    cases t <;> first | rfl | (simp only [btw, blw]; congr 1; rw [decide_eq_decide]; omega)
  rw [e]
  exact k

theorem tup_of {C : Addr} {hd : Addr × Addr} {H : Hp} {v : V} {t : Tg} (h : Ab C hd H v t) (e : isT "tuple" t = true) : ∃ p xs ts, v = .ref p ∧ t = .tup ts ∧ Rd H p (.tup xs) ∧ AbAll C hd H xs ts := by
  cases h with
  | tup r al => exact ⟨_, _, _, rfl, rfl, r, al⟩
  | non => exact Bool.noConfusion (show false = true from e)
  | bl _ => exact Bool.noConfusion (show false = true from e)
  | int _ => exact Bool.noConfusion (show false = true from e)
  | str _ => exact Bool.noConfusion (show false = true from e)
  | oth _ _ => exact Bool.noConfusion (show false = true from e)
theorem tsz_f {lo hi : Int} {t : Tg} (e : isT "tuple" t = false) : tsz lo hi t = false := by
  cases t <;> first | rfl | exact Bool.noConfusion (show true = false from e)
def sp_is_tuple_of (C : Addr) : Sp := fun vs H Q _ => ∃ (lo hi : Int) (hd : Addr × Addr) (v : V) (t : Tg), vs = [.int lo, .int hi, v] ∧ Ab C hd H v t ∧ Q (.bl (tsz lo hi t)) H
theorem ok_is_tuple_of (T : Txt w K mg a) : FnOk P w K mg base CX0 1 a.f_is_tuple_of a.d_is_tuple_of P_is_tuple_of (sp_is_tuple_of a.c_Program) := by
  refine T.F_is_tuple_of.ok sc_is_tuple_of (fun vs H Q E h => by obtain ⟨lo, hi, hd, v, t, rfl, _⟩ := h; rfl) (fun cdv A outer s H vs Q E hr h => ?_)
  obtain ⟨lo, hi, hd, v, t, rfl, ha, k⟩ := h
  refine ⟨_, (pss_one (ps_ret (pe_and (pe_callB call_isi (by rfl) T.n_isinstance (by decide +kernel) (pa_cons (pv 2) (pa_cons (pe_bltn (v := .ty "tuple") (u := .type "tuple") rfl T.n_tuple (by decide +kernel) rfl) pa_nil))) (pe_one (pe_chain op_le op_le (pv 0) (pe_callB call_len_seq (by rfl) T.n_len (by decide +kernel) (pa_cons (pv 2) pa_nil)) (pv 1)))))), ?_⟩
  walk_at "ws"
  refine ab_isi T.ik ha (.inr (.inr (.inr rfl))) ?_
  walk_at "ws"
  refine w_ite (fun e => ?_) (fun e => ?_)
  · obtain ⟨p, xs, ts, rfl, rfl, r, al⟩ := tup_of ha e
    have k : Q (.bl (decide (lo ≤ ts.length) && decide ((ts.length : Int) ≤ hi))) H := k
    walk_at "ws"
    refine ⟨p, xs, rfl, .inr (.inl r), ?_⟩
    rw [al.length]
    walk_at "ws"
    refine w_ite (fun e => ?_) (fun e => ?_)
    · walk_at "ws"
      rw [e] at k
      exact k
    · rw [e] at k
      exact k
  · rw [tsz_f e] at k
    exact k

end
end Mine
/-! ## K2 -/


namespace Mine
section
variable {P : Program} {w : World} {K : PySem.W.Frag} {mg : Str → Option Value} {base : Heap} {a : Ads}

/-! ### are_below, is_unlike_pair -/
theorem blw_int {b : Int} {t : Tg} (e : blw b t = true) : ∃ i, t = .int i := by
  cases t with
  | int i => exact ⟨i, rfl⟩
  | tup _ => exact Bool.noConfusion (show false = true from e)
  | non => exact Bool.noConfusion (show false = true from e)
  | bl _ => exact Bool.noConfusion (show false = true from e)
  | str _ => exact Bool.noConfusion (show false = true from e)
  | oth => exact Bool.noConfusion (show false = true from e)

end
end Mine
/-! ## K3 -/


namespace Mine
section
variable {P : Program} {w : World} {K : PySem.W.Frag} {mg : Str → Option Value} {base : Heap} {a : Ads}

/-! ### fits -/
/-- one part of a row, judged by its letter -/
def ftT (own : List Bool) (rows : Int) (c : Nat) (t : Tg) : Bool :=
  if c = 114 then blw 8 t else if c = 110 then btw (-1000000) 1000000 t else if c = 116 then btw 0 rows t else
    blw own.length t && (decide (c = 99) || match t with
      | .int i => own.getD i.toNat false
      | _ => false)
theorem sign_eq (c d : Nat) : decide ((⟨#[c]⟩ : Str) = ⟨#[d]⟩) = decide (c = d) := by
  by_cases e : c = d
  · rw [e]; simp
  · have n : ¬ (⟨#[c]⟩ : Str) = ⟨#[d]⟩ := fun z => e (by injection z with z; simpa using z)
    simp [e]
theorem r_sign {c d : Nat} {y : Str} {H : Hp} {Q : VK} (hy : y = ⟨#[d]⟩) (q : Q (.bl (decide (c = d))) H) : rEq (.str ⟨#[c]⟩) (.str y) H Q := by
  subst hy
  refine ⟨rfl, ?_⟩
  have e : decide (V.str ⟨#[c]⟩ = V.str ⟨#[d]⟩) = decide (c = d) := by
    rw [← sign_eq]
    rw [decide_eq_decide]
    exact ⟨fun z => by injection z, fun z => by rw [z]⟩
  rw [e]
  exact q
theorem ftT_r {own : List Bool} {rows : Int} {c : Nat} {t : Tg} (e : c = 114) : ftT own rows c t = blw 8 t := by
  unfold ftT
  rw [if_pos e]
theorem ftT_n {own : List Bool} {rows : Int} {c : Nat} {t : Tg} (e1 : ¬ c = 114) (e : c = 110) : ftT own rows c t = btw (-1000000) 1000000 t := by
  unfold ftT
  rw [if_neg e1, if_pos e]
theorem ftT_t {own : List Bool} {rows : Int} {c : Nat} {t : Tg} (e1 : ¬ c = 114) (e2 : ¬ c = 110) (e : c = 116) : ftT own rows c t = btw 0 rows t := by
  unfold ftT
  rw [if_neg e1, if_neg e2, if_pos e]
theorem ftT_o {own : List Bool} {rows : Int} {c : Nat} {t : Tg} (e1 : ¬ c = 114) (e2 : ¬ c = 110) (e3 : ¬ c = 116) : ftT own rows c t = (blw own.length t && (decide (c = 99) || match t with
      | .int i => own.getD i.toNat false
      | _ => false)) := by
  unfold ftT
  rw [if_neg e1, if_neg e2, if_neg e3]
def sp_fits (K : PySem.W.Frag) (C : Addr) : Sp := fun vs H Q _ => ∃ (c : Nat) (o : Addr) (hd : Addr × Addr) (own : List Bool) (rows : Int) (v : V) (t : Tg), vs = [.str ⟨#[c]⟩, .ref o, .int rows, v] ∧ SqL K H o (own.map V.bl) ∧ Ab C hd H v t ∧ Q (.bl (ftT own rows c t)) H
theorem ok_fits (T : Txt w K mg a) : FnOk P w K mg base CX0 4 a.f_fits a.d_fits P_fits (sp_fits K a.c_Program) := by
  refine T.F_fits.ok sc_fits (fun vs H Q E h => by obtain ⟨c, o, hd, own, rows, v, t, rfl, _⟩ := h; rfl) (fun cdv A outer s H vs Q E hr h => ?_)
  obtain ⟨c, o, hd, own, rows, v, t, rfl, ho, ha, k⟩ := h
  have G_is_between : FnOk P w K mg base CX0 2 a.f_is_between a.d_is_between P_is_between (sp_is_between a.c_Program) := ok_is_between T
  have G_is_below : FnOk P w K mg base CX0 3 a.f_is_below a.d_is_below P_is_below (sp_is_below a.c_Program) := ok_is_below T
  refine ⟨_, (pss_cons (ps_if (pt_cmpR op_eq (pv 0) pe_str (nomark _))
    (pss_one (ps_ret (pe_call (G_is_below) (hr.mono (by omega)) rfl T.m_is_below T.F_is_below.kp T.b_is_below .nil pass0 (pa_cons (pe_glob (v := .int 8) rfl T.m_REGISTERS ⟨_, rfl⟩) (pa_cons (pv 3) pa_nil)))))
    pss_nil)
  (pss_cons (ps_if (pt_cmpR op_eq (pv 0) pe_str (nomark _))
    (pss_one (ps_ret (pe_call (G_is_between) (hr.mono (by omega)) rfl T.m_is_between T.F_is_between.kp T.b_is_between .nil pass0 (pa_cons (pe_un un_neg (pe_glob (v := .int 1000000) rfl T.m_MOST_SET ⟨_, rfl⟩)) (pa_cons (pe_glob (v := .int 1000000) rfl T.m_MOST_SET ⟨_, rfl⟩) (pa_cons (pv 3) pa_nil))))))
    pss_nil)
  (pss_cons (ps_if (pt_cmpR op_eq (pv 0) pe_str (nomark _))
    (pss_one (ps_ret (pe_call (G_is_between) (hr.mono (by omega)) rfl T.m_is_between T.F_is_between.kp T.b_is_between .nil pass0 (pa_cons pe_int (pa_cons (pv 2) (pa_cons (pv 3) pa_nil))))))
    pss_nil)
  (pss_one (ps_ret (pe_and (pe_call (G_is_below) (hr.mono (by omega)) rfl T.m_is_below T.F_is_below.kp T.b_is_below .nil pass0 (pa_cons (pe_callB call_len_seq (by rfl) T.n_len (by decide +kernel) (pa_cons (pv 1) pa_nil)) (pa_cons (pv 3) pa_nil))) (pe_one (pe_or (pe_cmpR op_eq (pv 0) pe_str (nomark _)) (pe_one (pe_ix ix_list (pv 1) (pv 3) (fun _ _ => rfl))))))))))), ?_⟩
  walk_at "ws"
  refine r_sign (d := 114) (by decide +kernel) ⟨_, rfl, ?_⟩
  refine w_ite (fun e1 => ?_) (fun e1 => ?_)
  · rw [ftT_r (of_decide_eq_true e1)] at k
    walk_at "ws"
    exact ⟨_, hd, v, t, rfl, ha, k⟩
  have e1 := of_decide_eq_false e1
  walk_at "ws"
  refine r_sign (d := 110) (by decide +kernel) ⟨_, rfl, ?_⟩
  refine w_ite (fun e2 => ?_) (fun e2 => ?_)
  · rw [ftT_n e1 (of_decide_eq_true e2)] at k
    walk_at "ws"
    exact ⟨_, _, hd, v, t, rfl, ha, k⟩
  have e2 := of_decide_eq_false e2
  walk_at "ws"
  refine r_sign (d := 116) (by decide +kernel) ⟨_, rfl, ?_⟩
  refine w_ite (fun e3 => ?_) (fun e3 => ?_)
  · rw [ftT_t e1 e2 (of_decide_eq_true e3)] at k
    walk_at "ws"
    exact ⟨_, _, hd, v, t, rfl, ha, k⟩
  rw [ftT_o e1 e2 (of_decide_eq_false e3)] at k
  walk_at "ws"
  refine ⟨o, _, rfl, .inl ho, ?_⟩
  rw [List.length_map]
  walk_at "ws"
  refine ⟨_, hd, v, t, rfl, ha, ?_⟩
  refine ⟨_, rfl, ?_⟩
  refine w_ite (fun e4 => ?_) (fun e4 => ?_)
  · rw [e4, Bool.true_and] at k
    walk_at "ws"
    refine r_sign (d := 99) (by decide +kernel) ⟨_, rfl, ?_⟩
    refine w_ite (fun e5 => ?_) (fun e5 => ?_)
    · rw [e5, Bool.true_or] at k
      walk_at "ws"
      exact k
    · rw [e5, Bool.false_or] at k
      obtain ⟨i, rfl⟩ := blw_int e4
      cases ha
      have e6 : 0 ≤ i ∧ i < own.length := by simpa [blw] using e4
      walk_at "ws"
      have lt : i.toNat < own.length := by omega
      have ea : atI (own.map V.bl) i = some (.bl (own.getD i.toNat false)) := by
        obtain ⟨n, rfl⟩ : ∃ n : Nat, i = (n : Int) := ⟨i.toNat, by omega⟩
        rw [Int.toNat_natCast] at lt
        refine atI_nat ?_
        rw [List.getElem?_map, List.getElem?_eq_getElem lt, Int.toNat_natCast, List.getD_eq_getElem?_getD, List.getElem?_eq_getElem lt]
        rfl
      refine r_ixL ho ea ?_
      exact k
  · rw [e4, Bool.false_and] at k
    walk_at "ws"
    exact k

end
end Mine
/-! ## K4 -/


namespace Mine
section
variable {P : Program} {w : World} {K : PySem.W.Frag} {mg : Str → Option Value} {base : Heap} {a : Ads}

/-! ### is_row -/
/-- a row, judged: its word tells the letters of its parts -/
def rowT (own : List Bool) (rows : Int) : Tg → Bool
  | .tup (.str s :: ts) => match tab_FORMS.lookup s with
    | some f => decide (ts.length = f.cps.toList.length) && (f.cps.toList.zip ts).all fun p => ftT own rows p.1 p.2
    | none => false
  | _ => false
theorem lookup_all {R : Str → Prop} {z f : Str} : ∀ {l : List (Str × Str)}, (∀ p ∈ l, R p.2) → l.lookup z = some f → R f
  | [], _, e => nomatch e
  | (a, b) :: l, h, e => by
    rw [List.lookup_cons] at e
    split at e
    · cases e
      exact h _ (List.mem_cons_self ..)
    · exact lookup_all (fun p m => h p (List.mem_cons_of_mem _ m)) e
theorem form_le {z f : Str} (e : tab_FORMS.lookup z = some f) : f.cps.size ≤ 3 := lookup_all (R := fun f => f.cps.size ≤ 3) (by decide +kernel) e
theorem sqL_n {H H' : Hp} (g : G none H H') {a : Addr} {xs : List V} (h : SqL K H a xs) : SqL K H' a xs :=
  h.elim (fun h => .inl (h.elim (fun h => .inl (g.all _ _ h)) fun ⟨o, h⟩ => .inr ⟨o, g.all _ _ h⟩)) .inr
theorem cut1 (x : V) (xs : List V) : cutV (x :: xs) (some 1) none = xs := by
  unfold cutV
  simp [HT.sIx]
theorem bools_row {H : Hp} {f : Nat → Option Bool} : ∀ {n : Nat} {xs : List V} {bs : List Bool}, (∀ i, f i = bs[i]?) → n = bs.length → DpAll K H xs ((List.range n).filterMap fun i => (f i).map PyData.bool) → xs = bs.map V.bl := by
  intro n xs bs hf hn h
  subst hn
  have e : ((List.range bs.length).filterMap fun i => (f i).map PyData.bool) = bs.map PyData.bool := by
    have e2 : (fun i => (f i).map PyData.bool) = fun i => bs[i]?.map PyData.bool := funext fun i => by rw [hf]
    rw [e2, filterMap_range_map]
  rw [e] at h
  clear e hf
  induction bs generalizing xs with
  | nil =>
    cases h
    rfl
  | cons b bs ih =>
    cases h with
    | cons h1 h2 =>
      cases h1
      rw [ih h2]
      rfl
def sp_is_row (K : PySem.W.Frag) (C : Addr) : Sp := fun vs H Q _ => ∃ (o : Addr) (hd : Addr × Addr) (own : List Bool) (rows : Int) (v : V) (t : Tg), vs = [.ref o, .int rows, v] ∧ SqL K H o (own.map V.bl) ∧ Ab C hd H v t ∧ ∀ H', G none H H' → Q (.bl (rowT own rows t)) H'
theorem ok_is_row (T : Txt w K mg a) : FnOk P w K mg base CX0 5 a.f_is_row a.d_is_row P_is_row (sp_is_row K a.c_Program) := by
  refine T.F_is_row.ok sc_is_row (fun vs H Q E h => by obtain ⟨o, hd, own, rows, v, t, rfl, _⟩ := h; rfl) (fun cdv A outer s H vs Q E hr h => ?_)
  obtain ⟨o, hd, own, rows, v, t, rfl, ho, ha, k⟩ := h
  have G_fits : FnOk P w K mg base CX0 4 a.f_fits a.d_fits P_fits (sp_fits K a.c_Program) := ok_fits T
  refine ⟨_, (pss_cons (ps_if (L2.PW.pt (pw_or (pt_not (pt_val (pe_callB call_isi (by rfl) T.n_isinstance (by decide +kernel) (pa_cons (pv 2) (pa_cons (pe_bltn (v := .ty "tuple") (u := .type "tuple") rfl T.n_tuple (by decide +kernel) rfl) pa_nil))))) (pw_or (pt_cmpR (op_eqT0 (Nat.lt_of_le_of_lt (Nat.le_add_right _ 64) hr.units)) (pv 2) (pe_tupN pa_nil) (nomark _)) (pw_or (pt_not (pt_val (pe_callB call_isi (by rfl) T.n_isinstance (by decide +kernel) (pa_cons (pe_ix ix_tup (pv 2) pe_int (fun _ _ => rfl)) (pa_cons (pe_bltn (v := .ty "str") (u := .type "str") rfl T.n_str (by decide +kernel) rfl) pa_nil))))) (pw_or1 (pt_cmpR (op_notInW T.kd_FORMS) (pe_ix ix_tup (pv 2) pe_int (fun _ _ => rfl)) (pe_glob (v := .ref a.o_FORMS) rfl T.m_FORMS rfl) (by rfl)))))))
    (pss_one (ps_ret pe_bl))
    pss_nil)
  (pss_cons (ps_set (i := 3) sc_is_row.nd rfl (Or.inl rfl) (pe_ix (ix_itemW T.kd_FORMS) (pe_glob (v := .ref a.o_FORMS) rfl T.m_FORMS rfl) (pe_ix ix_tup (pv 2) pe_int (fun _ _ => rfl)) (fun _ _ => rfl)))
  (pss_cons (ps_if (pt_cmpR op_ne (pe_callB call_len_seq (by rfl) T.n_len (by decide +kernel) (pa_cons (pv 2) pa_nil)) (pe_op op_add (pe_callB call_len_str (by rfl) T.n_len (by decide +kernel) (pa_cons (pv 3) pa_nil)) pe_int) (nomark _))
    (pss_one (ps_ret pe_bl))
    pss_nil)
  (pss_one (ps_ret (pe_callB (cr_all rfl) (by rfl) T.n_all (by decide +kernel) (pa_cons (pe_lc (own := [("letter", 4), ("part", 5)]) (g := (gTup K 2 (gCons (gName 4) (gCons (gName 5) gNil)))) (tt := tYes) rfl sc_is_row.nd (pi_zipM (by rfl) T.n_zip (pa_cons (pv 3) (pa_cons (pe_slice sl_tupR (pv 2) (po_some pe_int) po_none) pa_nil))) (blkOk_by (N := N_is_row) (sc := defScope s_is_row) (by decide +kernel)) (fun _ _ _ _ _ => (pg_tup rfl (pgs_cons (pg_name (i := 4) sc_is_row.nd rfl (by first | exact Or.inl rfl | exact Or.inr rfl)) (pgs_cons (pg_name (i := 5) sc_is_row.nd rfl (by first | exact Or.inl rfl | exact Or.inr rfl)) pgs_nil)))) (fun _ _ _ _ _ => pts_nil) (fun _ _ _ _ _ => (pe_call (G_fits) (hr.mono (by omega)) rfl T.m_fits T.F_fits.kp T.b_fits .nil pass0 (pa_cons (pv 4) (pa_cons (pv 0) (pa_cons (pv 1) (pa_cons (pv 5) pa_nil))))))) pa_nil))))))), ?_⟩
  walk_at "ws"
  refine ab_isi T.ik ha (.inr (.inr (.inr rfl))) ?_
  refine ⟨_, rfl, ?_⟩
  refine w_ite (fun e1 => ?_) (fun e1 => ?_)
  · have z : rowT own rows t = false := by
      cases t <;> first | rfl | exact Bool.noConfusion (show (!true) = true from e1)
    rw [z] at k
    walk_at "ws"
    exact k H G.refl
  have e1 : isT "tuple" t = true := by simpa using e1
  obtain ⟨p, xs, ts, rfl, rfl, r, al⟩ := tup_of ha e1
  walk_at "ws"
  refine ⟨Nat.zero_le _, fun b H1 _ gg hb => ?_⟩
  have g1 : G none H H1 := gg none
  refine ⟨p, b, xs, rfl, rfl, g1.tups _ _ r, .inl hb, ?_⟩
  refine ⟨_, rfl, ?_⟩
  refine w_ite (fun e2 => ?_) (fun e2 => ?_)
  · have e2 := of_decide_eq_true e2
    subst e2
    cases al
    walk_at "ws"
    exact k _ g1
  obtain ⟨x, xs', rfl⟩ := List.exists_cons_of_ne_nil (of_decide_eq_false e2)
  obtain ⟨t0, ts0, rfl⟩ : ∃ t0 ts0, ts = t0 :: ts0 := by
    cases al
    exact ⟨_, _, rfl⟩
  obtain ⟨a0, al0⟩ : Ab a.c_Program hd H x t0 ∧ AbAll a.c_Program hd H xs' ts0 := by
    cases al
    exact ⟨by assumption, by assumption⟩
  have r1 : Rd H1 p (.tup (x :: xs')) := g1.tups _ _ r
  have a1 := a0.n g1
  have l1 := al0.length
  walk_at "ws"
  refine r_ixT (.inl r1) (i := 0) (atI_nat (j := 0) rfl) ?_
  walk_at "ws"
  refine ab_isi T.ik a1 (.inr (.inr (.inl rfl))) ?_
  refine ⟨_, rfl, ?_⟩
  refine w_ite (fun e3 => ?_) (fun e3 => ?_)
  · have z : rowT own rows (.tup (t0 :: ts0)) = false := by
      cases t0 <;> first | rfl | exact Bool.noConfusion (show (!true) = true from e3)
    rw [z] at k
    walk_at "ws"
    exact k _ g1
  have e3 : isT "str" t0 = true := by simpa using e3
  obtain ⟨z, rfl, rfl⟩ : ∃ z, t0 = .str z ∧ x = .str z := by
    cases a1 <;> first | exact ⟨_, rfl, rfl⟩ | exact Bool.noConfusion (show false = true from e3)
  walk_at "ws"
  refine r_ixT (.inl r1) (i := 0) (atI_nat (j := 0) rfl) ?_
  walk_at "ws"
  cases e4 : tab_FORMS.lookup z with
  | none =>
    have y : rowT own rows (.tup (.str z :: ts0)) = false := by
      show (match tab_FORMS.lookup z with | some f => _ | none => false) = false
      rw [e4]
    rw [y] at k
    refine ⟨z, rfl, rfl, ?_⟩
    rw [e4]
    refine ⟨_, rfl, ?_⟩
    refine w_iteE rfl ?_
    walk_at "ws"
    exact k _ g1
  | some f =>
    have y : rowT own rows (.tup (.str z :: ts0)) = (decide (ts0.length = f.cps.toList.length) && (f.cps.toList.zip ts0).all fun p => ftT own rows p.1 p.2) := by
      show (match tab_FORMS.lookup z with | some f => decide (ts0.length = f.cps.toList.length) && (f.cps.toList.zip ts0).all fun p => ftT own rows p.1 p.2 | none => false) = _
      rw [e4]
    rw [y] at k
    refine ⟨z, rfl, rfl, ?_⟩
    rw [e4]
    refine ⟨_, rfl, ?_⟩
    refine w_iteN rfl ?_
    walk_at "ws"
    refine r_ixT (.inl r1) (i := 0) (atI_nat (j := 0) rfl) ?_
    refine ⟨z, f, rfl, rfl, e4, ?_⟩
    walk_at "ws"
    refine ⟨p, _, rfl, .inr (.inl r1), ?_⟩
    walk_at "ws"
    refine ⟨f, rfl, ?_, ?_⟩
    · exact Nat.le_trans (form_le e4) (by decide)
    walk_at "ws"
    have lf : ((V.str z :: xs').length : Int) = (xs'.length : Int) + 1 := by simp
    have lg : (f.length : Int) = (f.cps.toList.length : Int) := by simp [PySem.Str.length]
    have lh : f.cps.toList.length = f.cps.size := by simp
    rw [lf, lg]
    refine w_ite (fun e5 => ?_) (fun e5 => ?_)
    · have n5 : decide (ts0.length = f.cps.toList.length) = false := by
        have := of_decide_eq_false (by simpa using e5)
        exact decide_eq_false (by omega)
      rw [n5, Bool.false_and] at k
      walk_at "ws"
      exact k _ g1
    have e6 : ts0.length = f.cps.toList.length := by
      have : (xs'.length : Int) + 1 = (f.cps.toList.length : Int) + 1 := by simpa using e5
      omega
    rw [decide_eq_true e6, Bool.true_and] at k
    walk_at "ws"
    unfold iZipM
    walk_at "ws"
    refine ⟨p, _, rfl, r1, fun p2 H2 gg2 r2 => ?_⟩
    have g2 : G none H1 H2 := gg2 none
    have g12 := g1.trans g2
    rw [cut1] at r2
    have ho2 := sqL_n g12 ho
    have al2 := al0.n g12
    refine ⟨.txt f, .tup p2, _, xs', rfl, rfl, .inl r2, ?_⟩
    intro D hD
    have sl : (signs f).length = f.cps.toList.length := by simp [signs]
    have nl := form_le e4
    have bl_ : ((f.cps.toList.zip ts0).map fun q => ftT own rows q.1 q.2).length = xs'.length := by
      rw [List.length_map, List.length_zip]
      omega
    refine lc_pure (K := K) (o := none) (walk_zipM (xs := signs f) (ys := xs') (n := xs'.length) (by omega) (Nat.le_refl _) (.inr rfl)) (by omega) hD (fun _ e => nomatch e) (fun i => (((f.cps.toList.zip ts0).map fun q => ftT own rows q.1 q.2)[i]?).map PyData.bool) (fun H' g => ⟨rfl, .inl (g.tups _ _ r2)⟩) ?_ ?_
    · rintro i x H3 H4 hi g ⟨T_, u1, u2, rfl, hT, rfl, hx1, hx2⟩ Qy Qn ky kn
      obtain ⟨c, hc, rfl⟩ : ∃ c, f.cps.toList[i]? = some c ∧ u1 = .str ⟨#[c]⟩ := by
        have hx1 : (signs f)[i]? = some u1 := hx1
        unfold signs at hx1
        rw [List.getElem?_map] at hx1
        obtain ⟨c, e, e2⟩ := Option.map_eq_some_iff.mp hx1
        exact ⟨c, e, e2.symm⟩
      obtain ⟨tt, ht, at_⟩ := al2.get hx2
      have g4 : G none H3 (upd H3 T_ (.tup [.str ⟨#[c]⟩, u2])) := G.alloc hT
      have g24 := g.trans g4
      refine ⟨T_, _, rfl, SqT.of upd_same, rfl, ?_⟩
      refine ⟨_, _, rfl, ?_⟩
      walk_at "ws"
      refine ⟨_, _, rfl, ?_⟩
      walk_at "ws"
      refine ⟨rfl, ?_⟩
      generalize upd H3 T_ (.tup [.str ⟨#[c]⟩, u2]) = H4 at g4 g24 ⊢
      refine ⟨rfl, ?_⟩
      walk_at "ws"
      refine ⟨c, o, hd, own, rows, u2, tt, rfl, sqL_n g24 ho2, at_.n g24, ?_⟩
      refine ky _ _ _ g4 (.bl _) rfl ?_
      rw [List.getElem?_map, List.getElem?_zip_eq_some (z := (c, tt)) |>.mpr ⟨hc, ht⟩]
      rfl
    · intro ys H' g hD' hds _
      obtain rfl := bools_row (fun i => rfl) bl_.symm hds
      walk_at "ws"
      refine ⟨D, _, rfl, SqL.of hD', ?_⟩
      have e : ((f.cps.toList.zip ts0).map fun q => ftT own rows q.1 q.2).all id = (f.cps.toList.zip ts0).all fun p => ftT own rows p.1 p.2 := by
        rw [List.all_map]
        rfl
      rw [e]
      exact k _ (g12.trans g)

end
end Mine
/-! ## K5 -/


namespace Mine
section
variable {P : Program} {w : World} {K : PySem.W.Frag} {mg : Str → Option Value} {base : Heap} {a : Ads}

/-! ### a program, made or refused -/
def sp_BadProgram_init (C : Addr) : Sp := fun vs H Q _ => ∃ (x : Addr) (v u : V), vs = [.ref x, v, u] ∧ H x = some (exo x C none) ∧ ∀ dx H', dx ≠ x → H dx = none → (∀ b o, b ≠ x → H b = some o → H' b = some o) → H' x = some (exo x C (some dx)) → H' dx = some (exd dx [(("at" : Str), u), (("part" : Str), v)]) → (∀ b, b ≠ x → b ≠ dx → H' b = H b) → Q .non H'
theorem ok_BadProgram_init (T : Txt w K mg a) : FnOk P w K mg base CX0 1 a.f_BadProgram_init a.d_BadProgram_init P_BadProgram_init (sp_BadProgram_init a.c_BadProgram) := by
  refine T.F_BadProgram_init.ok sc_BadProgram_init (fun vs H Q E h => by obtain ⟨x, v, u, rfl, _⟩ := h; rfl) (fun cdv A outer s H vs Q E hr h => ?_)
  obtain ⟨x, v, u, rfl, hx, k⟩ := h
  refine ⟨_, (pss_cons (ps_ost (pv 0) (pv 1)) (pss_one (ps_ost (pv 0) (pv 2)))), ?_⟩
  refine ⟨_, rfl, _, rfl, x, a.c_BadProgram, rfl, T.ox, T.xp, .inl ⟨hx, fun dx h1 h2 => ?_⟩⟩
  refine ⟨_, rfl, _, rfl, x, a.c_BadProgram, rfl, T.ox, T.xa, .inr ⟨dx, _, upd_same, by rw [upd_ne h2]; exact upd_same, by simp, ?_⟩⟩
  refine k dx _ h2 h1 (fun b o n e => ?_) (by rw [upd_ne h2.symm]; exact upd_same) upd_same (fun b n1 n2 => by rw [upd_ne n2, upd_ne n1, upd_ne n2])
  have n1 : b ≠ dx := ne_of_none e h1
  rw [upd_ne n1, upd_ne n, upd_ne n1]
  exact e
theorem w_mkO {C : Addr} {sp : Sp} {dvs : List V} {ta : TA} {σ : L2.St} {H : Hp} {Q : XK} (q : ta σ H fun vs H1 => vs.length ≤ 1000 ∧ ∀ x, H1 x = none → sp (.ref x :: (vs ++ dvs)) (upd H1 x (exo x C none))
    (fun v H2 => v = .non ∧ ∃ (d : Addr) (fs : List (Str × V)), H2 x = some (exo x C (some d)) ∧ H2 d = some (exd d fs) ∧ H1 d = none ∧ Q (.ref C) (some d) (upd (del H2 x) d (.xd fs))) (fun _ _ _ => False)) : tMkO C sp dvs ta σ H Q := q
def xfs (v u : V) : List (Str × V) := [(("at" : Str), u), (("part" : Str), v)]
theorem bad_prog {C : Addr} {W : XK} {H H1 : Hp} {v u : V} (g : G none H H1) (h : ∀ d H', G none H H' → H' d = some (.xd (xfs v u)) → W (.ref C) (some d) H') :
    [v, u].length ≤ 1000 ∧ ∀ x, H1 x = none → sp_BadProgram_init C (.ref x :: ([v, u] ++ [])) (upd H1 x (exo x C none))
    (fun u H2 => u = .non ∧ ∃ (d : Addr) (fs : List (Str × V)), H2 x = some (exo x C (some d)) ∧ H2 d = some (exd d fs) ∧ H1 d = none ∧ W (.ref C) (some d) (upd (del H2 x) d (.xd fs))) (fun _ _ _ => False) := by
  refine ⟨by simp, fun x hx => ⟨x, v, u, rfl, upd_same, fun dx H2 h2 h1 kk hx2 hd2 _ => ⟨rfl, dx, _, hx2, hd2, by rw [upd_ne h2] at h1; exact h1, ?_⟩⟩⟩
  have h1' : H1 dx = none := by rw [upd_ne h2] at h1; exact h1
  refine h dx _ (g.trans (G.of_all fun b u e => ?_)) upd_same
  have n1 : b ≠ dx := ne_of_none e h1'
  have n2 : b ≠ x := ne_of_none e hx
  rw [upd_ne n1, del_ne n2]
  exact kk b u n2 (by rw [upd_ne n2]; exact e)
def itemsT : Tg → List Tg
  | .tup ts => ts
  | _ => []
def intT : Tg → Int
  | .int i => i
  | _ => 0
def okO (n : Int) (os : List Tg) (i : Nat) : Bool := blw n (os.getD i .non)
def okC (cs : List Tg) (i : Nat) : Bool := tsz 0 60 (cs.getD i .non)
/-- which cells are machine m's own -/
def ownB (os : List Tg) (m : Nat) : List Bool := os.map fun t => decide (intT t = (m : Int))
/-- a row of machine m -/
def okR (os cs : List Tg) (m i : Nat) : Bool := rowT (ownB os m) ((itemsT (cs.getD m .non)).length : Nat) ((itemsT (cs.getD m .non)).getD i .non)
/-- the first wrong row of machine m -/
def wrR (os cs : List Tg) (m : Nat) : Option Nat := fw (okR os cs m) (itemsT (cs.getD m .non)).length
/-- what is refused and where; none if all is right -/
def due (to tc : Tg) : Option (V × Int) :=
  if tsz 1 7 tc then if tsz 1 8 to then
    match fw (okO (itemsT tc).length (itemsT to)) (itemsT to).length with
    | some i => some (.str "owners", (i : Nat))
    | none => match fw (okC (itemsT tc)) (itemsT tc).length with
      | some i => some (.str "codes", (i : Nat))
      | none => match fw (fun m => (wrR (itemsT to) (itemsT tc) m).isNone) (itemsT tc).length with
        | some m => some (.int (m : Nat), ((wrR (itemsT to) (itemsT tc) m).getD 0 : Nat))
        | none => none
    else some (.str "owners", -1) else some (.str "codes", -1)

theorem getD_of {ts : List Tg} {i : Nat} {t : Tg} (h : ts[i]? = some t) : ts.getD i .non = t := by rw [List.getD_eq_getElem?_getD, h]; rfl
theorem tsz_tup {lo hi : Int} {C : Addr} {hd : Addr × Addr} {H : Hp} {v : V} {t : Tg} (h : Ab C hd H v t) (e : tsz lo hi t = true) : ∃ p xs ts, v = .ref p ∧ t = .tup ts ∧ Rd H p (.tup xs) ∧ AbAll C hd H xs ts := by
  cases h with
  | tup r al => exact ⟨_, _, _, rfl, rfl, r, al⟩
  | non => exact Bool.noConfusion (show false = true from e)
  | bl _ => exact Bool.noConfusion (show false = true from e)
  | int _ => exact Bool.noConfusion (show false = true from e)
  | str _ => exact Bool.noConfusion (show false = true from e)
  | oth _ _ => exact Bool.noConfusion (show false = true from e)
theorem fw_all {f : Nat → Bool} {n : Nat} (h : fw f n = none) : ∀ j, j < n → f j = true := fun j hj => by
  have := List.find?_eq_none.mp h j (List.mem_range.mpr hj)
  simpa using this
theorem due_1 {to tc : Tg} (e : tsz 1 7 tc = false) : due to tc = some (.str "codes", (-1 : Int)) := by
  unfold due
  rw [e]
  rfl
theorem due_2 {to tc : Tg} (e : tsz 1 7 tc = true) (f : tsz 1 8 to = false) : due to tc = some (.str "owners", (-1 : Int)) := by
  unfold due
  rw [e, f]
  rfl
theorem due_3 {os cs : List Tg} (e : tsz 1 7 (.tup cs) = true) (f : tsz 1 8 (.tup os) = true) {i : Nat} (h : fw (okO cs.length os) os.length = some i) : due (.tup os) (.tup cs) = some (.str "owners", ((i : Nat) : Int)) := by
  unfold due
  rw [e, f, if_pos rfl, if_pos rfl]
  simp only [itemsT, h]
theorem due_4 {os cs : List Tg} (e : tsz 1 7 (.tup cs) = true) (f : tsz 1 8 (.tup os) = true) (h : fw (okO cs.length os) os.length = none) {i : Nat} (h2 : fw (okC cs) cs.length = some i) : due (.tup os) (.tup cs) = some (.str "codes", ((i : Nat) : Int)) := by
  unfold due
  rw [e, f, if_pos rfl, if_pos rfl]
  simp only [itemsT, h, h2]
theorem due_5 {os cs : List Tg} (e : tsz 1 7 (.tup cs) = true) (f : tsz 1 8 (.tup os) = true) (h : fw (okO cs.length os) os.length = none) (h2 : fw (okC cs) cs.length = none) {m i : Nat} (h3 : fw (fun m => (wrR os cs m).isNone) cs.length = some m) (h4 : wrR os cs m = some i) : due (.tup os) (.tup cs) = some (.int (m : Nat), ((i : Nat) : Int)) := by
  unfold due
  rw [e, f, if_pos rfl, if_pos rfl]
  simp only [itemsT, h, h2, h3, h4, Option.getD_some]
theorem due_6 {os cs : List Tg} (e : tsz 1 7 (.tup cs) = true) (f : tsz 1 8 (.tup os) = true) (h : fw (okO cs.length os) os.length = none) (h2 : fw (okC cs) cs.length = none) (h3 : fw (fun m => (wrR os cs m).isNone) cs.length = none) : due (.tup os) (.tup cs) = none := by
  unfold due
  rw [e, f, if_pos rfl, if_pos rfl]
  simp only [itemsT, h, h2, h3]
def sp_check_program (C CB : Addr) : Sp := fun vs H Q E => ∃ (hd : Addr × Addr) (ov cv : V) (to tc : Tg), vs = [ov, cv] ∧ Ab C hd H ov to ∧ Ab C hd H cv tc ∧
  (due to tc = none → ∀ H', G none H H' → Q .non H') ∧
  (∀ x y, due to tc = some (x, y) → ∀ d H', G none H H' → H' d = some (.xd (xfs x (.int y))) → E (.ref CB) (some d) H')
theorem ok_check_program (T : Txt w K mg a) : FnOk P w K mg base (L2.CX P w) 6 a.f_check_program a.d_check_program P_check_program (sp_check_program a.c_Program a.c_BadProgram) := by
  refine T.F_check_program.okX sc_check_program (fun vs H Q E h => by obtain ⟨hd, ov, cv, to, tc, rfl, _⟩ := h; rfl) (fun cdv A outer s H vs Q E hr h => ?_)
  obtain ⟨hd, ov, cv, to, tc, rfl, ho, hc, kok, kbad⟩ := h
  have G_is_tuple_of : FnOk P w K mg base CX0 1 a.f_is_tuple_of a.d_is_tuple_of P_is_tuple_of (sp_is_tuple_of a.c_Program) := ok_is_tuple_of T
  have G_is_below : FnOk P w K mg base CX0 3 a.f_is_below a.d_is_below P_is_below (sp_is_below a.c_Program) := ok_is_below T
  have G_is_row : FnOk P w K mg base CX0 5 a.f_is_row a.d_is_row P_is_row (sp_is_row K a.c_Program) := ok_is_row T
  have G_BadProgram_init : FnOk P w K mg base CX0 1 a.f_BadProgram_init a.d_BadProgram_init P_BadProgram_init (sp_BadProgram_init a.c_BadProgram) := ok_BadProgram_init T
  refine ⟨_, (pss_cons (ps_if (pt_not (pt_val (pe_call (G_is_tuple_of) (hr.mono (by omega)) rfl T.m_is_tuple_of T.F_is_tuple_of.kp T.b_is_tuple_of .nil pass0 (pa_cons pe_int (pa_cons (pe_glob (v := .int 7) rfl T.m_MOST_MACHINES ⟨_, rfl⟩) (pa_cons (pv 1) pa_nil))))))
    (pss_one (ps_raise rfl (takes_of rfl rfl rfl rfl) (pmk_oex T.ox T.xi T.xt G_BadProgram_init (hr.mono (by omega)) T.b_BadProgram_init .nil pass0 rfl T.m_BadProgram (pa_cons pe_str (pa_cons (pe_un un_neg pe_int) pa_nil)))))
    pss_nil)
  (pss_cons (ps_if (pt_not (pt_val (pe_call (G_is_tuple_of) (hr.mono (by omega)) rfl T.m_is_tuple_of T.F_is_tuple_of.kp T.b_is_tuple_of .nil pass0 (pa_cons pe_int (pa_cons (pe_glob (v := .int 8) rfl T.m_MOST_CELLS ⟨_, rfl⟩) (pa_cons (pv 0) pa_nil))))))
    (pss_one (ps_raise rfl (takes_of rfl rfl rfl rfl) (pmk_oex T.ox T.xi T.xt G_BadProgram_init (hr.mono (by omega)) T.b_BadProgram_init .nil pass0 rfl T.m_BadProgram (pa_cons pe_str (pa_cons (pe_un un_neg pe_int) pa_nil)))))
    pss_nil)
  (pss_cons (ps_for (passes_of rfl) rfl (pi_enumT (by rfl) T.n_enumerate (pa_cons (pv 0) pa_nil)) (pg_tup rfl (pgs_cons (pg_name (i := 2) sc_check_program.nd rfl (Or.inl rfl)) (pgs_cons (pg_name (i := 3) sc_check_program.nd rfl (Or.inl rfl)) pgs_nil)))
    (pss_one (ps_if (pt_not (pt_val (pe_call (G_is_below) (hr.mono (by omega)) rfl T.m_is_below T.F_is_below.kp T.b_is_below .nil pass0 (pa_cons (pe_callB call_len_seq (by rfl) T.n_len (by decide +kernel) (pa_cons (pv 1) pa_nil)) (pa_cons (pv 3) pa_nil)))))
    (pss_one (ps_raise rfl (takes_of rfl rfl rfl rfl) (pmk_oex T.ox T.xi T.xt G_BadProgram_init (hr.mono (by omega)) T.b_BadProgram_init .nil pass0 rfl T.m_BadProgram (pa_cons pe_str (pa_cons (pv 2) pa_nil)))))
    pss_nil)))
  (pss_cons (ps_for (passes_of rfl) rfl (pi_enumT (by rfl) T.n_enumerate (pa_cons (pv 1) pa_nil)) (pg_tup rfl (pgs_cons (pg_name (i := 4) sc_check_program.nd rfl (Or.inr rfl)) (pgs_cons (pg_name (i := 5) sc_check_program.nd rfl (Or.inl rfl)) pgs_nil)))
    (pss_one (ps_if (pt_not (pt_val (pe_call (G_is_tuple_of) (hr.mono (by omega)) rfl T.m_is_tuple_of T.F_is_tuple_of.kp T.b_is_tuple_of .nil pass0 (pa_cons pe_int (pa_cons (pe_glob (v := .int 60) rfl T.m_MOST_ROWS ⟨_, rfl⟩) (pa_cons (pv 5) pa_nil))))))
    (pss_one (ps_raise rfl (takes_of rfl rfl rfl rfl) (pmk_oex T.ox T.xi T.xt G_BadProgram_init (hr.mono (by omega)) T.b_BadProgram_init .nil pass0 rfl T.m_BadProgram (pa_cons pe_str (pa_cons (pv 4) pa_nil)))))
    pss_nil)))
  (pss_one (ps_for (passes_of rfl) rfl (pi_enumT (by rfl) T.n_enumerate (pa_cons (pv 1) pa_nil)) (pg_tup rfl (pgs_cons (pg_name (i := 4) sc_check_program.nd rfl (Or.inr rfl)) (pgs_cons (pg_name (i := 5) sc_check_program.nd rfl (Or.inl rfl)) pgs_nil)))
    (pss_cons (ps_setLc (i := 6) (own := [("owner", 3)]) (g := (gName 3)) (tt := tYes)  rfl sc_check_program.nd rfl rfl (sw_true rfl rfl rfl (by decide +kernel)) (pi_tup (pv 0)) (blkOk_by (N := N_check_program) (sc := defScope s_check_program) (by decide +kernel)) (fun _ _ _ _ _ => (pg_name (i := 3) sc_check_program.nd rfl (by first | exact Or.inl rfl | exact Or.inr rfl))) (fun _ _ _ _ _ => pts_nil) (fun _ _ _ _ _ => (pe_cmpR op_eq (pv 3) (pv 4) (nomark _))))
  (pss_one (ps_for (passes_of rfl) rfl (pi_enumT (by rfl) T.n_enumerate (pa_cons (pv 5) pa_nil)) (pg_tup rfl (pgs_cons (pg_name (i := 7) sc_check_program.nd rfl (Or.inl rfl)) (pgs_cons (pg_name (i := 8) sc_check_program.nd rfl (Or.inl rfl)) pgs_nil)))
    (pss_one (ps_if (pt_not (pt_val (pe_call (G_is_row) (hr.mono (by omega)) rfl T.m_is_row T.F_is_row.kp T.b_is_row .nil pass0 (pa_cons (pv 6) (pa_cons (pe_callB call_len_seq (by rfl) T.n_len (by decide +kernel) (pa_cons (pv 5) pa_nil)) (pa_cons (pv 8) pa_nil))))))
    (pss_one (ps_raise rfl (takes_of rfl rfl rfl rfl) (pmk_oex T.ox T.xi T.xt G_BadProgram_init (hr.mono (by omega)) T.b_BadProgram_init .nil pass0 rfl T.m_BadProgram (pa_cons (pv 4) (pa_cons (pv 7) pa_nil)))))
    pss_nil))))))))))), ?_⟩
  walk_at "ws"
  refine ⟨1, 7, hd, cv, tc, rfl, hc, ?_⟩
  walk_at "ws"
  refine w_ite (fun e => ?_) (fun e => ?_)
  · have e : tsz 1 7 tc = false := by simpa using e
    refine w_mkO ?_
    walk_at "ws"
    exact bad_prog (v := .str "codes") (u := .int (-1)) G.refl fun d H' g h => kbad _ _ (due_1 e) d H' g h
  have e1 : tsz 1 7 tc = true := by simpa using e
  obtain ⟨cp, cxs, cs, rfl, rfl, rc, ac⟩ := tsz_tup hc e1
  walk_at "ws"
  refine ⟨1, 8, hd, ov, to, rfl, ho, ?_⟩
  walk_at "ws"
  refine w_ite (fun e => ?_) (fun e => ?_)
  · have e : tsz 1 8 to = false := by simpa using e
    refine w_mkO ?_
    walk_at "ws"
    exact bad_prog (v := .str "owners") (u := .int (-1)) G.refl fun d H' g h => kbad _ _ (due_2 e1 e) d H' g h
  have e2 : tsz 1 8 to = true := by simpa using e
  obtain ⟨op, oxs, os, rfl, rfl, ro, ao⟩ := tsz_tup ho e2
  have lo := ao.length
  have lc := ac.length
  walk_at "ws"
  refine i_enum (.inl ro) ?_
  refine for_it (walk_enumT (xs := oxs)) (fun i σ H1 => G none H H1 ∧ (∀ j, j < i → okO cs.length os j = true) ∧ ∃ u2 u3 u4 u5 u6 u7 u8, σ = [some (.ref op), some (.ref cp), u2, u3, u4, u5, u6, u7, u8]) ⟨G.refl, (fun _ h => absurd h (Nat.not_lt_zero _)), _, _, _, _, _, _, _, rfl⟩ (fun i σ H1 _ h => .inl (h.1.tups _ _ ro)) ?_ ?_
  · rintro i x σ H1 H2 hi ⟨g1, hj, u2, u3, u4, u5, u6, u7, u8, rfl⟩ ⟨t, y, z, rfl, ht, rfl, ey, ez⟩
    cases Option.some.inj ey
    have g2 : G none H1 (upd H1 t (.tup [.int (i : Nat), z])) := G.alloc ht
    refine ⟨t, _, rfl, SqT.of upd_same, rfl, ?_⟩
    refine ⟨_, _, rfl, ?_⟩
    walk_at "ws"
    refine ⟨_, _, rfl, ?_⟩
    walk_at "ws"
    refine ⟨rfl, ?_⟩
    generalize upd H1 t (.tup [.int (i : Nat), z]) = H2 at g2 ⊢
    have g02 := g1.trans g2
    have hlt : i < os.length := by omega
    obtain ⟨tg, htg, hz⟩ := ao.get ez
    have egi := getD_of htg
    walk_at "ws"
    refine ⟨cp, cxs, rfl, .inr (.inl (g02.tups _ _ rc)), ?_⟩
    rw [lc]
    walk_at "ws"
    refine ⟨(cs.length : Int), hd, z, tg, rfl, hz.n g02, ?_⟩
    have eo : okO cs.length os i = blw cs.length tg := by unfold okO; rw [egi]
    rw [← eo]
    walk_at "ws"
    refine w_ite (fun e => ?_) (fun e => ?_)
    · have e : okO cs.length os i = false := by simpa using e
      refine w_mkO ?_
      walk_at "ws"
      exact bad_prog (v := .str "owners") (u := .int (i : Nat)) g02 fun d H' g h => kbad _ _ (due_3 e1 e2 (fw_some hlt hj e)) d H' g h
    · have e : okO cs.length os i = true := by simpa using e
      walk_at "ws"
      refine ⟨g02, fun j hj2 => ?_, _, _, _, _, _, _, _, rfl⟩
      rcases Nat.lt_succ_iff_lt_or_eq.mp hj2 with q | q
      · exact hj j q
      · rw [q]; exact e
  rintro σ H1 ⟨g1, hj, u2, u3, u4, u5, u6, u7, u8, rfl⟩
  have f3 : fw (okO cs.length os) os.length = none := fw_none (by rw [← lo]; exact hj)
  clear hj
  walk_at "ws"
  refine i_enum (.inl (g1.tups _ _ rc)) ?_
  refine for_it (walk_enumT (xs := cxs)) (fun i σ H1 => G none H H1 ∧ (∀ j, j < i → okC cs j = true) ∧ ∃ u2 u3 u4 u5 u6 u7 u8, σ = [some (.ref op), some (.ref cp), u2, u3, u4, u5, u6, u7, u8]) ⟨g1, (fun _ h => absurd h (Nat.not_lt_zero _)), _, _, _, _, _, _, _, rfl⟩ (fun i σ H1 _ h => .inl (h.1.tups _ _ rc)) ?_ ?_
  · rintro i x σ H1 H2 hi ⟨g1, hj, u2, u3, u4, u5, u6, u7, u8, rfl⟩ ⟨t, y, z, rfl, ht, rfl, ey, ez⟩
    cases Option.some.inj ey
    have g2 : G none H1 (upd H1 t (.tup [.int (i : Nat), z])) := G.alloc ht
    refine ⟨t, _, rfl, SqT.of upd_same, rfl, ?_⟩
    refine ⟨_, _, rfl, ?_⟩
    walk_at "ws"
    refine ⟨_, _, rfl, ?_⟩
    walk_at "ws"
    refine ⟨rfl, ?_⟩
    generalize upd H1 t (.tup [.int (i : Nat), z]) = H2 at g2 ⊢
    have g02 := g1.trans g2
    have hlt : i < cs.length := by omega
    obtain ⟨tg, htg, hz⟩ := ac.get ez
    have egi := getD_of htg
    walk_at "ws"
    refine ⟨0, 60, hd, z, tg, rfl, hz.n g02, ?_⟩
    have eo : okC cs i = tsz 0 60 tg := by unfold okC; rw [egi]
    rw [← eo]
    walk_at "ws"
    refine w_ite (fun e => ?_) (fun e => ?_)
    · have e : okC cs i = false := by simpa using e
      refine w_mkO ?_
      walk_at "ws"
      exact bad_prog (v := .str "codes") (u := .int (i : Nat)) g02 fun d H' g h => kbad _ _ (due_4 e1 e2 f3 (fw_some hlt hj e)) d H' g h
    · have e : okC cs i = true := by simpa using e
      walk_at "ws"
      refine ⟨g02, fun j hj2 => ?_, _, _, _, _, _, _, _, rfl⟩
      rcases Nat.lt_succ_iff_lt_or_eq.mp hj2 with q | q
      · exact hj j q
      · rw [q]; exact e
  clear g1
  rintro σ H1 ⟨g1, hj, u2, u3, u4, u5, u6, u7, u8, rfl⟩
  have f4 : fw (okC cs) cs.length = none := fw_none (by rw [← lc]; exact hj)
  clear hj
  walk_at "ws"
  refine i_enum (.inl (g1.tups _ _ rc)) ?_
  refine for_it (walk_enumT (xs := cxs)) (fun i σ H1 => G none H H1 ∧ (∀ j, j < i → (wrR os cs j).isNone = true) ∧ ∃ u2 u3 u4 u5 u6 u7 u8, σ = [some (.ref op), some (.ref cp), u2, u3, u4, u5, u6, u7, u8]) ⟨g1, (fun _ h => absurd h (Nat.not_lt_zero _)), _, _, _, _, _, _, _, rfl⟩ (fun i σ H1 _ h => .inl (h.1.tups _ _ rc)) ?_ ?_
  · rintro i x σ H1 H2 hi ⟨g1, hj, u2, u3, u4, u5, u6, u7, u8, rfl⟩ ⟨t, y, z, rfl, ht, rfl, ey, ez⟩
    cases Option.some.inj ey
    have g2 : G none H1 (upd H1 t (.tup [.int (i : Nat), z])) := G.alloc ht
    refine ⟨t, _, rfl, SqT.of upd_same, rfl, ?_⟩
    refine ⟨_, _, rfl, ?_⟩
    walk_at "ws"
    refine ⟨_, _, rfl, ?_⟩
    walk_at "ws"
    refine ⟨rfl, ?_⟩
    generalize upd H1 t (.tup [.int (i : Nat), z]) = H2 at g2 ⊢
    have g02 := g1.trans g2
    have hlt : i < cs.length := by omega
    obtain ⟨tg, htg, hz⟩ := ac.get ez
    have egi := getD_of htg
    have okc : tsz 0 60 tg = true := by
      have := fw_all f4 i hlt
      unfold okC at this
      rw [egi] at this
      exact this
    obtain ⟨rp, rxs, rs, rfl, rfl, rr, ar⟩ := tsz_tup hz okc
    have lr := ar.length
    walk_at "ws"
    refine i_tup (.inl (g02.tups _ _ ro)) ?_
    intro D hD
    have oi : ∀ {j : Nat} {q : Tg}, os[j]? = some q → ∃ n, q = .int n := fun {j q} e => by
      have := fw_all f3 j (List.getElem?_eq_some_iff.mp e).1
      unfold okO at this
      rw [getD_of e] at this
      exact blw_int this
    have lb : (ownB os i).length = oxs.length := by unfold ownB; rw [List.length_map]; exact lo.symm
    have l8 : oxs.length ≤ 8 := by
      have e : (decide ((1 : Int) ≤ os.length) && decide ((os.length : Int) ≤ 8)) = true := e2
      rw [Bool.and_eq_true, decide_eq_true_eq, decide_eq_true_eq] at e
      omega
    refine lc_pure (K := K) (o := none) (walk_tup (xs := oxs)) (by omega) hD (fun _ e => nomatch e) (fun j => ((ownB os i)[j]?).map PyData.bool) (fun H' g => .inl (g.tups _ _ (g02.tups _ _ ro))) ?_ ?_
    · rintro j x H3 H4 hj2 g ⟨rfl, hx1⟩ Qy Qn ky kn
      obtain ⟨to, hto, ha⟩ := ao.get hx1
      obtain ⟨n, rfl⟩ := oi hto
      cases ha
      walk_at "ws"
      refine ⟨rfl, ?_⟩
      walk_at "ws"
      refine ky _ _ _ G.refl (.bl _) rfl ?_
      unfold ownB
      rw [List.getElem?_map, hto]
      rfl
    intro ys H5 g5 hD5 hds _
    obtain rfl := bools_row (fun i => rfl) lb.symm hds
    clear hds
    have g05 := g02.trans g5
    walk_at "ws"
    have ei : itemsT (cs.getD i .non) = rs := by rw [egi]; rfl
    refine i_enum (.inl (g05.tups _ _ rr)) ?_
    refine for_it (walk_enumT (xs := rxs)) (fun k σ H6 => G none H5 H6 ∧ (∀ j, j < k → okR os cs i j = true) ∧ ∃ u7 u8, σ = [some (.ref op), some (.ref cp), u2, u3, some (.int (i : Nat)), some (.ref rp), some (.ref D), u7, u8]) ⟨G.refl, (fun _ h => absurd h (Nat.not_lt_zero _)), _, _, rfl⟩ (fun k σ H6 _ h => .inl (h.1.tups _ _ (g05.tups _ _ rr))) ?_ ?_
    · rintro k x σ H6 H7 hk ⟨g6, hj2, u7, u8, rfl⟩ ⟨t2, y, z2, rfl, ht2, rfl, ey, ez2⟩
      cases Option.some.inj ey
      have g7 : G none H6 (upd H6 t2 (.tup [.int (k : Nat), z2])) := G.alloc ht2
      refine ⟨t2, _, rfl, SqT.of upd_same, rfl, ?_⟩
      refine ⟨_, _, rfl, ?_⟩
      walk_at "ws"
      refine ⟨_, _, rfl, ?_⟩
      walk_at "ws"
      refine ⟨rfl, ?_⟩
      generalize upd H6 t2 (.tup [.int (k : Nat), z2]) = H7 at g7 ⊢
      have g57 := g6.trans g7
      have g07 := g05.trans g57
      have hlt2 : k < rs.length := by omega
      obtain ⟨tg2, htg2, hz2⟩ := ar.get ez2
      have egk := getD_of htg2
      walk_at "ws"
      refine ⟨rp, rxs, rfl, .inr (.inl (g07.tups _ _ rr)), ?_⟩
      rw [lr]
      walk_at "ws"
      refine ⟨D, hd, ownB os i, (rs.length : Int), z2, tg2, rfl, SqL.of (g57.all _ _ hD5), hz2.n g07, fun H8 g8 => ?_⟩
      have g08 := g07.trans g8
      have eo : okR os cs i k = rowT (ownB os i) (rs.length : Int) tg2 := by
        unfold okR
        rw [ei, egk]
      rw [← eo]
      walk_at "ws"
      refine w_ite (fun e => ?_) (fun e => ?_)
      · have e : okR os cs i k = false := by simpa using e
        have ew : wrR os cs i = some k := by
          unfold wrR
          rw [ei]
          exact fw_some hlt2 hj2 e
        refine w_mkO ?_
        walk_at "ws"
        exact bad_prog (v := .int (i : Nat)) (u := .int (k : Nat)) g08 fun d H' g h => kbad _ _ (due_5 e1 e2 f3 f4 (fw_some hlt hj (by rw [ew]; rfl)) ew) d H' g h
      · have e : okR os cs i k = true := by simpa using e
        walk_at "ws"
        refine ⟨g57.trans g8, fun j hj3 => ?_, _, _, rfl⟩
        rcases Nat.lt_succ_iff_lt_or_eq.mp hj3 with q | q
        · exact hj2 j q
        · rw [q]; exact e
    rintro σ H6 ⟨g6, hj2, u7, u8, rfl⟩
    refine ⟨g05.trans g6, fun j hj3 => ?_, _, _, _, _, _, _, _, rfl⟩
    rcases Nat.lt_succ_iff_lt_or_eq.mp hj3 with q | q
    · exact hj j q
    · rw [q]
      have : wrR os cs i = none := by
        unfold wrR
        rw [ei]
        exact fw_none (by rw [← lr]; exact hj2)
      rw [this]
      rfl
  clear g1
  rintro σ H1 ⟨g1, hj, u2, u3, u4, u5, u6, u7, u8, rfl⟩
  have f5 : fw (fun m => (wrR os cs m).isNone) cs.length = none := fw_none (by rw [← lc]; exact hj)
  clear hj
  walk_at "ws"
  exact kok (due_6 e1 e2 f3 f4 f5) H1 g1

end
end Mine
/-! ## K6 -/


namespace Mine
section
variable {P : Program} {w : World} {K : PySem.W.Frag} {mg : Str → Option Value} {base : Heap} {a : Ads}

/-! ### programs as instances -/
theorem wd_ : ¬ (("owners" : Str) = "codes") := by decide +kernel
def rf (w d : V) : List (Str × V) := [("owners", w), ("codes", d)]
theorem rf_w (w d : V) : (rf w d).lookup ("owners" : Str) = some w := by simp [rf, List.lookup]
theorem rf_d (w d : V) : (rf w d).lookup ("codes" : Str) = some d := by
  have e : (("codes" : Str) == "owners") = false := by simpa using fun z => wd_ z.symm
  simp [rf, List.lookup, e]
theorem rput0 (w : V) : putF "owners" w [] = [(("owners" : Str), w)] := rfl
theorem rput1 (w d : V) : putF "codes" d [(("owners" : Str), w)] = rf w d := by
  show (if ("owners" : Str) = "codes" then _ else (("owners" : Str), w) :: putF "codes" d []) = _
  rw [if_neg wd_]; rfl
theorem r_fld {o : Addr} {C dx : Addr} {fs : List (Str × V)} {v : V} {f : Str} {H : Hp} {F : V → Prop} (e : H o = some (.ins C dx fs)) (c : Cls K C) (n : NoAttr K C f) (l : fs.lookup f = some v) (q : F v) :
    ∃ a C dx fs v, V.ref o = .ref a ∧ H a = some (.ins C dx fs) ∧ Cls K C ∧ NoAttr K C f ∧ fs.lookup f = some v ∧ F v := ⟨o, C, dx, fs, v, rfl, e, c, n, l, q⟩
theorem r_sfld {o : Addr} {C dx : Addr} {fs : List (Str × V)} {F : Hp → Prop} {f : Str} {y : V} {H : Hp} (e : H o = some (.ins C dx fs)) (c : Cls K C) (n : NoAttr K C f) (l : fs.length < 1000) (q : F (upd H o (.ins C dx (putF f y fs)))) :
    ∃ a C dx fs, V.ref o = .ref a ∧ H a = some (.ins C dx fs) ∧ Cls K C ∧ NoAttr K C f ∧ fs.length < 1000 ∧ F (upd H a (.ins C dx (putF f y fs))) := ⟨o, C, dx, fs, rfl, e, c, n, l, q⟩
def sp_Program_init (C CB : Addr) : Sp := fun vs H Q E => ∃ (x dx : Addr) (hd : Addr × Addr) (wv dv : V) (tw td : Tg), vs = [.ref x, wv, dv] ∧ H x = some (.ins C dx []) ∧ Ab C hd H wv tw ∧ Ab C hd H dv td ∧
  (due tw td = none → ∀ H', (∀ b u, b ≠ x → H b = some u → H' b = some u) → H' x = some (.ins C dx (rf wv dv)) → Q .non H') ∧
  (∀ p y, due tw td = some (p, y) → ∀ d H', G none H H' → H' d = some (.xd (xfs p (.int y))) → E (.ref CB) (some d) H')
theorem ok_Program_init (T : Txt w K mg a) : FnOk P w K mg base (L2.CX P w) 7 a.f_Program_init a.d_Program_init P_Program_init (sp_Program_init a.c_Program a.c_BadProgram) := by
  refine T.F_Program_init.okX sc_Program_init (fun vs H Q E h => by obtain ⟨x, dx, hd, wv, dv, tw, td, rfl, _⟩ := h; rfl) (fun cdv A outer s H vs Q E hr h => ?_)
  obtain ⟨x, dx, hd, wv, dv, tw, td, rfl, hx, hw, hdd, kok, kbad⟩ := h
  have G_check_program : FnOk P w K mg base (L2.CX P w) 6 a.f_check_program a.d_check_program P_check_program (sp_check_program a.c_Program a.c_BadProgram) := ok_check_program T
  refine ⟨_, (pss_cons (ps_expr (pe_call G_check_program (hr.mono (by omega)) rfl T.m_check_program T.F_check_program.kp T.b_check_program .nil (passes_call (takes_of rfl rfl rfl rfl) (fun _ _ _ _ h => h)) (pa_cons (pv 1) (pa_cons (pv 2) pa_nil))))
  (pss_cons (ps_fld (pv 0) (pv 1) rfl)
  (pss_one (ps_fld (pv 0) (pv 2) rfl)))), ?_⟩
  walk_at "ws"
  refine ⟨hd, wv, dv, tw, td, rfl, hw, hdd, fun e H1 g1 => ?_, fun p y e d H' g h => kbad p y e d H' g h⟩
  walk_at "ws"
  have h1 := g1.all _ _ hx
  refine r_sfld h1 T.cl_Program T.na_Program_owners (by show 0 < 1000; decide) ?_
  walk_at "ws"
  refine r_sfld upd_same T.cl_Program T.na_Program_codes (by rw [rput0]; show 1 < 1000; decide) ?_
  rw [rput0, rput1]
  refine kok e _ (fun b u n z => ?_) upd_same
  rw [upd_ne n, upd_ne n]; exact g1.all _ _ z

end
end Mine
/-! ## K7 -/


namespace Mine
section
variable {P : Program} {w : World} {K : PySem.W.Frag} {mg : Str → Option Value} {base : Heap} {a : Ads}

/-! ### programs compared -/
theorem ty_ins {H : Hp} {x C dx : Addr} {fs : List (Str × V)} (ic : C8.InsC K C) (h : H x = some (.ins C dx fs)) : TyX K H (.ref x) (.ref C) := .base (.ins h ic.cl ic.ha ic.hn ic.htk ic.hm)
def ProgAt (K : PySem.W.Frag) (C : Addr) (H : Hp) (x : Addr) (d e : PyData) : Prop := ∃ (dx : Addr) (ov cv : V), H x = some (.ins C dx (rf ov cv)) ∧ Dp K H ov d ∧ Dp K H cv e ∧ SeqAt.shaped d = true ∧ SeqAt.shaped e = true
def sp_Program_eq (K : PySem.W.Frag) (C : Addr) : Sp := fun vs H Q E =>
  (∃ (x y : Addr) (d1 d2 e1 e2 : PyData), vs = [.ref x, .ref y] ∧ ProgAt K C H x d1 d2 ∧ ProgAt K C H y e1 e2 ∧ Q (.bl (PyData.eqv d1 e1 && PyData.eqv d2 e2)) H) ∨
  ∃ (x : Addr) (y : V) (t : Value), vs = [.ref x, y] ∧ TyX K H y t ∧ PySem.W.kitOne K t (.ref C) = some false ∧ Q (.bl false) H
theorem ok_Program_eq (T : Txt w K mg a) : FnOk P w K mg base CX0 1 a.f_Program_eq a.d_Program_eq P_Program_eq (sp_Program_eq K a.c_Program) := by
  refine T.F_Program_eq.ok sc_Program_eq (fun vs H Q E h => by rcases h with ⟨x, y, d1, d2, e1, e2, rfl, _⟩ | ⟨x, y, t, rfl, _⟩ <;> rfl) (fun cdv A outer s H vs Q E hr h => ?_)
  rcases h with ⟨x, y, d1, d2, e1, e2, rfl, ⟨dx, wa, da, hx, hxw, hxd, s1, s2⟩, ⟨dy, wb, db, hy, hyw, hyd, s3, s4⟩, k⟩ | ⟨x, y, t, rfl, ty, no, k⟩
  · refine ⟨_, (pss_one (ps_ret (pe_and (pe_callB call_isi (by rfl) T.n_isinstance (by decide +kernel) (pa_cons (pv 1) (pa_cons (pe_glob (v := .ref a.c_Program) rfl T.m_Program rfl) pa_nil))) (pe_and (pe_cmpR (op_eqD hr.units) (pe_fld (pv 0) rfl) (pe_fld (pv 1) rfl) (nomark _)) (pe_one (pe_cmpR (op_eqD hr.units) (pe_fld (pv 0) rfl) (pe_fld (pv 1) rfl) (nomark _))))))), ?_⟩
    walk_at "ws"
    refine ⟨_, _, _, _, true, rfl, .own _, ty_ins T.ic_Program hy, T.ic_Program.me, ?_⟩
    walk_at "ws"
    refine r_fld hx T.cl_Program T.na_Program_owners (rf_w _ _) ?_
    walk_at "ws"
    refine r_fld hy T.cl_Program T.na_Program_owners (rf_w _ _) ?_
    refine ⟨d1, e1, hxw, hyw, s1, s3, ?_⟩
    walk_at "ws"
    refine w_ite (fun e => ?_) (fun e => ?_)
    · walk_at "ws"
      refine r_fld hx T.cl_Program T.na_Program_codes (rf_d _ _) ?_
      walk_at "ws"
      refine r_fld hy T.cl_Program T.na_Program_codes (rf_d _ _) ?_
      refine ⟨d2, e2, hxd, hyd, s2, s4, ?_⟩
      rw [e, Bool.true_and] at k
      exact k
    · rw [e] at k
      exact k
  · refine ⟨_, (pss_one (ps_ret (pe_and (pe_callB call_isi (by rfl) T.n_isinstance (by decide +kernel) (pa_cons (pv 1) (pa_cons (pe_glob (v := .ref a.c_Program) rfl T.m_Program rfl) pa_nil))) (pe_and (pe_cmpR (op_eqD hr.units) (pe_fld (pv 0) rfl) (pe_fld (pv 1) rfl) (nomark _)) (pe_one (pe_cmpR (op_eqD hr.units) (pe_fld (pv 0) rfl) (pe_fld (pv 1) rfl) (nomark _))))))), ?_⟩
    walk_at "ws"
    refine ⟨_, _, _, _, false, rfl, .own _, ty, no, ?_⟩
    walk_at "ws"
    exact k

end
end Mine
/-! ## K8 -/


namespace Mine
section
variable {P : Program} {w : World} {K : PySem.W.Frag} {mg : Str → Option Value} {base : Heap} {a : Ads}

/-! ### the pool of draws -/
theorem cut_ints {ns : List Int} {lo hi : Option Int} : ∃ ms : List Int, cutV (ns.map V.int) lo hi = ms.map V.int ∧ ms.length ≤ ns.length := by
  obtain ⟨ms, hms⟩ := ints_of (xs := cutV (ns.map V.int) lo hi) fun v hv => by
    obtain ⟨n, _, e⟩ := List.mem_map.mp (mem_cutV hv)
    exact ⟨n, e.symm⟩
  refine ⟨ms, hms, ?_⟩
  have e := cutV_length (ns.map V.int) lo hi
  rw [hms, List.length_map, List.length_map] at e
  omega
theorem pop_ix {ls : List Int} {r : Int} (r0 : 0 ≤ r) (rl : r.toNat < ls.length) : PySem.seqIndex? r (ls.map V.int).length = some r.toNat := by
  unfold PySem.seqIndex?
  rw [List.length_map]
  have n0 : ¬ r < 0 := by omega
  simp [n0]
  omega
def sp__law_pool (K : PySem.W.Frag) : Sp := fun vs H Q _ => ∃ (s : Addr) (ns : List Int), vs = [.ref s] ∧ SqL K H s (ns.map V.int) ∧ ns.length ≤ 63 ∧ ∀ hd c H', G none H H' → Hand H' hd c → Q (.ref hd) H'
theorem ok__law_pool (T : Txt w K mg a) : FnOk P w K mg base CX0 1 a.f__law_pool a.d__law_pool P__law_pool (sp__law_pool K) := by
  refine T.F__law_pool.ok sc__law_pool (fun vs H Q E h => by obtain ⟨s, ns, rfl, _⟩ := h; rfl) (fun cdv A outer s0 H vs Q E hr h => ?_)
  obtain ⟨s, ns, rfl, hs, hl, k⟩ := h
  refine ⟨_, (pss_cons (ps_set (i := 1) sc__law_pool.nd rfl (Or.inl rfl) (pe_op op_add (pe_op op_add (pe_op op_mod (pe_callTy call_int1 (by rfl) T.n_int (by decide +kernel) (pa_cons (pe_callB (cr_sum rfl) (by rfl) T.n_sum (by decide +kernel) (pa_cons (pe_slice sl_list (pv 0) po_none (po_some pe_int)) pa_nil)) pa_nil)) pe_int) (pe_callB call_len_seq (by rfl) T.n_len (by decide +kernel) (pa_cons (pv 0) pa_nil))) pe_int))
  (pss_cons (ps_for PassesOwn.never rfl (pi_list (pe_slice sl_list (pv 0) po_none (po_some pe_int))) (pg_name (i := 2) sc__law_pool.nd rfl (Or.inl rfl))
    (pss_one (ps_set (i := 1) sc__law_pool.nd rfl (Or.inl rfl) (pe_op op_mod (pe_callTy call_int1 (by rfl) T.n_int (by decide +kernel) (pa_cons (pe_op op_add (pe_op op_add (pe_op op_mul (pv 1) pe_int) (pe_op op_mod (pe_callTy call_int1 (by rfl) T.n_int (by decide +kernel) (pa_cons (pv 2) pa_nil)) pe_int)) pe_int) pa_nil)) pe_int))))
  (pss_one (ps_ret (pe_lstN (pa_cons (pv 1) (pa_cons pe_int (pa_cons (pe_lc (own := [("_law_cell", 2)]) (g := (gName 2)) rfl sc__law_pool.nd (pi_list (pe_slice sl_list (pv 0) po_none (po_some pe_int))) (blkOk_by (N := N__law_pool) (sc := defScope s__law_pool) (by decide +kernel)) (fun _ _ _ _ _ => (pg_name (i := 2) sc__law_pool.nd rfl (by first | exact Or.inl rfl | exact Or.inr rfl))) (fun _ _ _ _ _ => (pts_one (pt_cmpR op_ge (pe_callB call_abs (by rfl) T.n_abs (by decide +kernel) (pa_cons (pv 2) pa_nil)) (pe_op op_pow pe_int pe_int) (nomark _)))) (fun _ _ _ _ _ => (pe_callB call_abs (by rfl) T.n_abs (by decide +kernel) (pa_cons (pv 2) pa_nil)))) pa_nil)))))))), ?_⟩
  walk_at "ws"
  refine ⟨s, _, rfl, hs, fun p hp => ?_⟩
  obtain ⟨ms, hms, hz⟩ := cut_ints (ns := ns) (lo := none) (hi := some 1)
  rw [hms]
  have g1 : G none H (upd H p (.lst (ms.map V.int))) := G.alloc hp
  have h1 : upd H p (.lst (ms.map V.int)) p = some (.lst (ms.map V.int)) := upd_same
  generalize upd H p (.lst (ms.map V.int)) = H1 at g1 h1 ⊢
  walk_at "ws"
  refine ⟨p, ms, rfl, SqL.of h1, ?_⟩
  walk_at "ws"
  refine .inl ⟨_, rfl, ?_⟩
  walk_at "ws"
  refine r_I (by decide) ?_
  walk_at "ws"
  refine ⟨s, _, rfl, .inl (sqL_n g1 hs), ?_⟩
  walk_at "ws"
  generalize (_ : Int) + 1 = seed
  refine ⟨s, _, rfl, sqL_n g1 hs, fun p2 hp2 => ?_⟩
  clear hms hz h1
  obtain ⟨ms, hms, hz⟩ := cut_ints (ns := ns) (lo := none) (hi := some 63)
  rw [hms]
  have g2 : G none H1 (upd H1 p2 (.lst (ms.map V.int))) := G.alloc hp2
  have h2 : upd H1 p2 (.lst (ms.map V.int)) p2 = some (.lst (ms.map V.int)) := upd_same
  generalize upd H1 p2 (.lst (ms.map V.int)) = H2 at g2 h2 ⊢
  have g02 := g1.trans g2
  refine i_list (SqL.of h2) ?_
  refine for_it (walk_list (xs := ms.map V.int)) (fun i σ H' => H' = H2 ∧ ∃ seed x, σ = [some (.ref s), some (.int seed), x]) ⟨rfl, _, _, rfl⟩ (fun _ _ _ _ h => by rw [h.1]; exact SqL.of h2) ?_ ?_
  · rintro i x σ H3 H4 hi ⟨rfl, seed, x0, rfl⟩ ⟨rfl, hx1⟩
    obtain ⟨n, hn, rfl⟩ : ∃ n, ms[i]? = some n ∧ V.int n = x := by
      rw [List.getElem?_map] at hx1; exact Option.map_eq_some_iff.mp hx1
    walk_at "ws"
    refine r_I (.inr ⟨by decide, by decide⟩) ?_
    walk_at "ws"
    refine .inl ⟨_, rfl, ?_⟩
    walk_at "ws"
    refine r_I (by decide) ?_
    walk_at "ws"
    refine .inl ⟨_, rfl, ?_⟩
    walk_at "ws"
    refine r_I (by decide) ?_
    exact ⟨rfl, _, _, rfl⟩
  rintro σ H3 ⟨rfl, seed, x0, rfl⟩
  walk_at "ws"
  refine ⟨s, _, rfl, sqL_n g02 hs, fun p3 hp3 => ?_⟩
  rw [hms]
  have g3 : G none H3 (upd H3 p3 (.lst (ms.map V.int))) := G.alloc hp3
  have h3 : upd H3 p3 (.lst (ms.map V.int)) p3 = some (.lst (ms.map V.int)) := upd_same
  generalize upd H3 p3 (.lst (ms.map V.int)) = H4 at g3 h3 ⊢
  have g03 := g02.trans g3
  refine i_list (SqL.of h3) ?_
  intro D hD
  refine lc_pure (K := K) (o := none) walk_list (by rw [List.length_map]; omega) hD (fun _ e => nomatch e) (fun i => ms[i]?.bind fun n => if (1000000000000000000 : Int) ≤ (if n < 0 then -n else n) then some (.int (if n < 0 then -n else n)) else none) (fun H' g => SqL.of (g.all _ _ h3)) ?_ ?_
  · rintro i x H5 H6 hi g ⟨rfl, hx1⟩ Qy Qn ky kn
    obtain ⟨n, hn, rfl⟩ : ∃ n, ms[i]? = some n ∧ V.int n = x := by
      rw [List.getElem?_map] at hx1; exact Option.map_eq_some_iff.mp hx1
    walk_at "ws"
    refine ⟨rfl, ?_⟩
    walk_at "ws"
    refine ⟨_, rfl, ?_⟩
    walk_at "ws"
    refine r_I ⟨by decide, by decide, by decide⟩ ?_
    walk_at "ws"
    refine w_ite (fun e => ?_) (fun e => ?_)
    · walk_at "ws"
      refine ⟨_, rfl, ?_⟩
      refine ky _ _ _ G.refl (.int _) rfl ?_
      rw [hn]
      simp at e
      simp [e]
    · refine kn _ G.refl ?_
      rw [hn]
      simp at e
      simp [e]
  · intro xs H' g hD' hds _
    rw [List.length_map, filterMap_range_fm] at hds
    obtain ⟨cs, rfl⟩ : ∃ cs : List Int, xs = cs.map V.int := ⟨_, DpAll.of_ints (ns := ms.filterMap fun n => if (1000000000000000000 : Int) ≤ (if n < 0 then -n else n) then some (if n < 0 then -n else n) else none) (by
      rw [List.map_filterMap]
      have e : (fun n : Int => (if (1000000000000000000 : Int) ≤ (if n < 0 then -n else n) then some (if n < 0 then -n else n) else none).map PyData.int) = fun n : Int => if (1000000000000000000 : Int) ≤ (if n < 0 then -n else n) then some (PyData.int (if n < 0 then -n else n)) else none := by
        funext n
        by_cases h : (1000000000000000000 : Int) ≤ (if n < 0 then -n else n)
        · rw [if_pos h, if_pos h]; rfl
        · rw [if_neg h, if_neg h]; rfl
      rw [e]
      exact hds)⟩
    have g04 := g03.trans g
    walk_at "ws"
    refine ⟨sz (by simp), fun q H5 hq g5 h5 => ?_⟩
    exact k q D _ (g04.trans (g5 none)) ⟨ne_of_none hD' hq, ⟨cs, (g5 none).all _ _ hD'⟩, _, _, h5⟩

def sp__law_draw : Sp := fun vs H Q _ => ∃ (hd c : Addr) (n : Int), vs = [.ref hd, .int n] ∧ Hand H hd c ∧ 0 < n ∧ n ≤ 100000 ∧ ∀ r H', 0 ≤ r → r < n → G (some (hd, c)) H H' → Hand H' hd c → Q (.int r) H'
theorem st3 {x0 x1 x2 v : V} {j : Nat} {hd : Addr} {z : Int} {H : Hp} {F : Hp → Prop} (h : H hd = some (.lst [x0, x1, x2])) (e : ixN 3 z = some j) (q : F (upd H hd (.lst (([x0, x1, x2] : List V).set j v)))) : rSetL (.ref hd) (.int z) v H F := ⟨hd, _, z, j, rfl, rfl, h, e, q⟩
theorem ok__law_draw (T : Txt w K mg a) : FnOk P w K mg base CX0 1 a.f__law_draw a.d__law_draw P__law_draw sp__law_draw := by
  refine T.F__law_draw.ok sc__law_draw (fun vs H Q E h => by obtain ⟨hd, c, n, rfl, _⟩ := h; rfl) (fun cdv A outer s0 H vs Q E hr h => ?_)
  obtain ⟨hd, c, n, rfl, hh, n0, n1, k⟩ := h
  have hh' := hh
  obtain ⟨nc, ⟨ns, hc⟩, i, b, h⟩ := hh'
  refine ⟨_, (pss_cons (ps_asg (pe_op op_add (pe_ix ix_list (pv 0) pe_int (fun _ _ => rfl)) pe_int) (pg_sub (pv 0) pe_int set_list))
  (pss_cons (ps_set (i := 2) sc__law_draw.nd rfl (Or.inl rfl) (pe_ix ix_list (pv 0) pe_int (fun _ _ => rfl)))
  (pss_cons (ps_if (pt_cmpR op_gt (pe_callB call_len_seq (by rfl) T.n_len (by decide +kernel) (pa_cons (pv 2) pa_nil)) pe_int (nomark _))
    (pss_cons (ps_set (i := 3) sc__law_draw.nd rfl (Or.inl rfl) (pe_op op_mod (pe_callTy call_int1 (by rfl) T.n_int (by decide +kernel) (pa_cons (pe_ix ix_list (pv 2) pe_int (fun _ _ => rfl)) pa_nil)) (pv 1)))
  (pss_cons (ps_asg (pe_op op_fdiv (pe_callTy call_int1 (by rfl) T.n_int (by decide +kernel) (pa_cons (pe_ix ix_list (pv 2) pe_int (fun _ _ => rfl)) pa_nil)) (pv 1)) (pg_sub (pv 2) pe_int set_list))
  (pss_cons (ps_if (pt_cmpR op_eq (pe_ix ix_list (pv 2) pe_int (fun _ _ => rfl)) pe_int (nomark _))
    (pss_one (ps_expr (pe_bm PySem.F.plainAttrs_list PySem.F.slot_list_pop PySem.F.type_list_pop mt_popAt (pv 2) (pa_cons pe_int pa_nil))))
    pss_nil)
  (pss_one (ps_ret (pv 3))))))
    pss_nil)
  (pss_cons (ps_set (i := 4) sc__law_draw.nd rfl (Or.inl rfl) (pe_op op_mod (pe_callTy call_int1 (by rfl) T.n_int (by decide +kernel) (pa_cons (pe_op op_mul (pe_op op_add (pe_ix ix_list (pv 0) pe_int (fun _ _ => rfl)) (pe_op op_mul pe_int (pe_ix ix_list (pv 0) pe_int (fun _ _ => rfl)))) pe_int) pa_nil)) pe_int))
  (pss_cons (ps_set (i := 4) sc__law_draw.nd rfl (Or.inl rfl) (pe_op op_mod (pe_callTy call_int1 (by rfl) T.n_int (by decide +kernel) (pa_cons (pe_op op_mul (pv 4) (pe_op op_add (pe_op op_fdiv (pv 4) pe_int) pe_int)) pa_nil)) pe_int))
  (pss_cons (ps_set (i := 4) sc__law_draw.nd rfl (Or.inl rfl) (pe_op op_mod (pe_callTy call_int1 (by rfl) T.n_int (by decide +kernel) (pa_cons (pe_op op_mul (pv 4) (pe_op op_add (pe_op op_fdiv (pv 4) pe_int) pe_int)) pa_nil)) pe_int))
  (pss_one (ps_ret (pe_op op_mod (pe_callTy call_int1 (by rfl) T.n_int (by decide +kernel) (pa_cons (pe_op op_fdiv (pv 4) pe_int) pa_nil)) (pv 1)))))))))), ?_⟩
  walk_at "ws"
  refine r_ixL (SqL.of h) (v := .int b) rfl ?_
  walk_at "ws"
  refine st3 (j := 1) h rfl ?_
  walk_at "ws"
  have h1 : upd H hd (.lst (([.int i, .int b, .ref c] : List V).set 1 (.int (b + 1)))) hd = some (.lst [.int i, .int (b + 1), .ref c]) := upd_same
  have c1 : upd H hd (.lst (([.int i, .int b, .ref c] : List V).set 1 (.int (b + 1)))) c = some (.lst (ns.map V.int)) := by rw [upd_ne nc]; exact hc
  have e1 : ∀ a, a ≠ hd → a ≠ c → upd H hd (.lst (([.int i, .int b, .ref c] : List V).set 1 (.int (b + 1)))) a = H a := fun a n1 _ => upd_ne n1
  generalize upd H hd (.lst (([.int i, .int b, .ref c] : List V).set 1 (.int (b + 1)))) = H1 at h1 c1 e1 ⊢
  refine r_ixL (SqL.of h1) (v := .ref c) rfl ?_
  walk_at "ws"
  refine ⟨c, _, rfl, .inl (SqL.of c1), ?_⟩
  walk_at "ws"
  refine w_ite (fun e => ?_) (fun e => ?_)
  · obtain ⟨m, ms, rfl⟩ : ∃ m ms, ns = m :: ms := by
      cases ns with
      | nil => simp at e
      | cons m ms => exact ⟨m, ms, rfl⟩
    walk_at "ws"
    refine r_ixL (SqL.of c1) (v := .int m) (atI_nat (j := 0) rfl) ?_
    walk_at "ws"
    refine .inl ⟨_, rfl, ?_⟩
    walk_at "ws"
    refine r_I n0 ?_
    walk_at "ws"
    refine r_ixL (SqL.of c1) (v := .int m) (atI_nat (j := 0) rfl) ?_
    walk_at "ws"
    refine .inl ⟨_, rfl, ?_⟩
    walk_at "ws"
    refine r_I ⟨n0, by omega⟩ ?_
    walk_at "ws"
    refine ⟨c, _, 0, 0, rfl, rfl, c1, by simp [ixN], ?_⟩
    have c2 : upd H1 c (.lst (((m :: ms).map V.int).set 0 (.int (m / n)))) c = some (.lst (((m / n) :: ms).map V.int)) := upd_same
    have h2 : upd H1 c (.lst (((m :: ms).map V.int).set 0 (.int (m / n)))) hd = some (.lst [.int i, .int (b + 1), .ref c]) := by rw [upd_ne nc.symm]; exact h1
    have e2 : ∀ a, a ≠ hd → a ≠ c → upd H1 c (.lst (((m :: ms).map V.int).set 0 (.int (m / n)))) a = H a := fun a n1 n2 => by rw [upd_ne n2]; exact e1 a n1 n2
    generalize upd H1 c (.lst (((m :: ms).map V.int).set 0 (.int (m / n)))) = H2 at c2 h2 e2 ⊢
    walk_at "ws"
    refine r_ixL (SqL.of c2) (v := .int (m / n)) (atI_nat (j := 0) rfl) ?_
    walk_at "ws"
    refine w_ite (fun e => ?_) (fun e => ?_)
    · walk_at "ws"
      refine i_BM c2 ?_
      walk_at "ws"
      refine ⟨c, _, 0, 0, .int (m / n), rfl, rfl, c2, by decide, by decide, pop_ix (ls := (m / n) :: ms) (r := 0) (by decide) (by simp), rfl, ?_⟩
      walk_at "ws"
      obtain ⟨g, hh2⟩ := G.at_hd hh (H' := upd H2 c (.lst ((((m / n) :: ms).map V.int).eraseIdx 0))) (i := i) (b := b + 1) (ns := ms) (fun a n1 n2 => by rw [upd_ne n2]; exact e2 a n1 n2) (by rw [upd_ne nc.symm]; exact h2) (by rw [upd_same]; rfl)
      exact k _ _ (Int.emod_nonneg _ (by omega)) (Int.emod_lt_of_pos _ n0) g hh2
    · walk_at "ws"
      obtain ⟨g, hh2⟩ := G.at_hd hh e2 h2 c2
      exact k _ _ (Int.emod_nonneg _ (by omega)) (Int.emod_lt_of_pos _ n0) g hh2
  · walk_at "ws"
    refine r_ixL (SqL.of h1) (v := .int i) rfl ?_
    walk_at "ws"
    refine r_ixL (SqL.of h1) (v := .int (b + 1)) rfl ?_
    refine r_I (.inl ⟨by decide, by decide⟩) ?_
    walk_at "ws"
    refine r_I (.inr ⟨by decide, by decide⟩) ?_
    walk_at "ws"
    refine .inl ⟨_, rfl, ?_⟩
    walk_at "ws"
    refine r_I (by decide) ?_
    generalize e1 : (_ : Int) % 2147483647 = u1
    have b1 : 0 ≤ u1 ∧ u1 < 2147483647 := by omega
    walk_at "ws"
    refine r_I ⟨by decide, by decide⟩ ?_
    walk_at "ws"
    refine r_I (.inl ⟨by omega, by omega⟩) ?_
    walk_at "ws"
    refine .inl ⟨_, rfl, ?_⟩
    walk_at "ws"
    refine r_I (by decide) ?_
    generalize e2 : (_ : Int) % 2147483647 = u2
    have b2 : 0 ≤ u2 ∧ u2 < 2147483647 := by omega
    walk_at "ws"
    refine r_I ⟨by decide, by decide⟩ ?_
    walk_at "ws"
    refine r_I (.inl ⟨by omega, by omega⟩) ?_
    walk_at "ws"
    refine .inl ⟨_, rfl, ?_⟩
    walk_at "ws"
    refine r_I (by decide) ?_
    walk_at "ws"
    refine r_I ⟨by decide, by decide⟩ ?_
    walk_at "ws"
    refine .inl ⟨_, rfl, ?_⟩
    walk_at "ws"
    refine r_I n0 ?_
    obtain ⟨g, hh2⟩ := G.at_hd hh ‹_› h1 c1
    exact k _ _ (Int.emod_nonneg _ (by omega)) (Int.emod_lt_of_pos _ n0) g hh2

end
end Mine
/-! ## K9 -/


namespace Mine
section
variable {P : Program} {w : World} {K : PySem.W.Frag} {mg : Str → Option Value} {base : Heap} {a : Ads}

/-! ### deep things, _law_is, _law_is_int -/
theorem gnew {H H' : Hp} {p : Addr} (g : G none H H') (h : H' p = none) : H p = none := by
  cases e : H p with
  | none => rfl
  | some u => rw [g.all _ _ e] at h; cases h
def sp__law_deep : Sp := fun vs H Q _ => vs = [] ∧ ∀ p xs H', H p = none → G none H H' → H' p = some (.lst xs) → Q (.ref p) H'
theorem ok__law_deep (T : Txt w K mg a) : FnOk P w K mg base CX0 1 a.f__law_deep a.d__law_deep P__law_deep sp__law_deep := by
  refine T.F__law_deep.ok sc__law_deep (fun vs H Q E h => by obtain ⟨rfl, _⟩ := h; rfl) (fun cdv A outer s H vs Q E hr h => ?_)
  obtain ⟨rfl, k⟩ := h
  refine ⟨_, (pss_cons (ps_set (i := 0) sc__law_deep.nd rfl (Or.inl rfl) (pe_lstN (pa_cons pe_non pa_nil)))
  (pss_cons (ps_for PassesOwn.never rfl (pi_range1 rfl T.n_range (pa_cons pe_int pa_nil)) (pg_name (i := 1) sc__law_deep.nd rfl (Or.inl rfl))
    (pss_one (ps_set (i := 0) sc__law_deep.nd rfl (Or.inl rfl) (pe_lstN (pa_cons (pv 0) pa_nil)))))
  (pss_one (ps_ret (pv 0))))), ?_⟩
  walk_at "ws"
  refine ⟨sz (by simp), fun p H1 hp g1 h1 => ?_⟩
  walk_at "ws"
  refine i_rng1 (by decide) (by decide) ?_
  refine for_it walk_range (fun i σ H' => ∃ p xs u, σ = [some (.ref p), u] ∧ H p = none ∧ G none H H' ∧ H' p = some (.lst xs)) ⟨p, _, _, rfl, hp, g1 none, h1⟩ (fun _ _ _ _ _ => trivial) ?_ ?_
  · rintro i _ σ _ H2 hi ⟨p, xs, u, rfl, hp, g2, h2⟩ ⟨rfl, rfl⟩
    walk_at "ws"
    refine ⟨sz (by simp), fun q H3 hq g3 h3 => ?_⟩
    exact ⟨q, _, _, rfl, gnew g2 hq, g2.trans (g3 none), h3⟩
  · rintro σ H2 ⟨p, xs, u, rfl, hp, g2, h2⟩
    walk_at "ws"
    exact k p xs H2 hp g2 h2

def sp__law_is (K : PySem.W.Frag) : Sp := fun vs H Q _ => ∃ (v u : V) (d : PyData), vs = [v, u] ∧ Dp K H v d ∧ Dp K H u d ∧ Shw d ∧ Q (.bl true) H
theorem ok__law_is (T : Txt w K mg a) : GOk P w K mg base CX0 1 a.f__law_is a.d__law_is P__law_is (sp__law_is K) := by
  refine Fun.okG0 T.F__law_is sc__law_is (fun vs H Q E h => by obtain ⟨v, u, d, rfl, _⟩ := h; rfl) (fun cdv A outer s H vs Q E gd hr h => ?_)
  obtain ⟨v, u, d, rfl, h1, h2, sh, k⟩ := h
  refine ⟨_, (pss_one (ps_ret (pe_cmpR op_eq (pe_callB (call_reprD gd hr.units) (by rfl) T.n_repr (by decide +kernel) (pa_cons (pv 0) pa_nil)) (pe_callB (call_reprD gd hr.units) (by rfl) T.n_repr (by decide +kernel) (pa_cons (pv 1) pa_nil)) (nomark _)))), ?_⟩
  walk_at "ws"
  refine ⟨v, d, rfl, h1, sh, ?_⟩
  walk_at "ws"
  refine ⟨u, d, rfl, h2, sh, ?_⟩
  refine ⟨rfl, ?_⟩
  rw [decide_eq_true rfl]
  exact k

def sp__law_is_int (C : Addr) : Sp := fun vs H Q _ => ∃ (lo hi : Int) (hd : Addr × Addr) (v : V) (t : Tg), vs = [v, .int lo, .int hi] ∧ Ab C hd H v t ∧ Q (.bl (btw lo hi t)) H
theorem ok__law_is_int (T : Txt w K mg a) : FnOk P w K mg base CX0 1 a.f__law_is_int a.d__law_is_int P__law_is_int (sp__law_is_int a.c_Program) := by
  refine T.F__law_is_int.ok sc__law_is_int (fun vs H Q E h => by obtain ⟨lo, hi, hd, v, t, rfl, _⟩ := h; rfl) (fun cdv A outer s H vs Q E hr h => ?_)
  obtain ⟨lo, hi, hd, v, t, rfl, ha, k⟩ := h
  refine ⟨_, (pss_one (ps_ret (pe_and (pe_callB call_isi (by rfl) T.n_isinstance (by decide +kernel) (pa_cons (pv 0) (pa_cons (pe_bltn (v := .ty "int") (u := .type "int") rfl T.n_int (by decide +kernel) rfl) pa_nil))) (pe_and (pe_not (pe_callB call_isi (by rfl) T.n_isinstance (by decide +kernel) (pa_cons (pv 0) (pa_cons (pe_bltn (v := .ty "bool") (u := .type "bool") rfl T.n_bool (by decide +kernel) rfl) pa_nil)))) (pe_one (pe_chain op_le op_le (pv 1) (pv 0) (pv 2))))))), ?_⟩
  walk_at "ws"
  refine ab_isi T.ik ha (.inl rfl) ?_
  walk_at "ws"
  refine w_ite (fun e => ?_) (fun e => ?_)
  · walk_at "ws"
    refine ab_isi T.ik ha (.inr (.inl rfl)) ?_
    walk_at "ws"
    rw [← isI_t e]
    refine w_ite (fun e => ?_) (fun e => ?_)
    · obtain ⟨i, rfl, rfl⟩ := isI_int ha e
      have k : Q (.bl (decide (lo ≤ i) && decide (i ≤ hi))) H := k
      walk_at "ws"
      refine w_ite (fun e => ?_) (fun e => ?_)
      · walk_at "ws"
        rw [e] at k
        exact k
      · rw [e] at k
        exact k
    · rw [btw_f e] at k
      exact k
  · rw [btw_f (isI_f e)] at k
    exact k

end
end Mine
/-! ## K10 -/


namespace Mine
section
variable {P : Program} {w : World} {K : PySem.W.Frag} {mg : Str → Option Value} {base : Heap} {a : Ads}

/-! ### rows, programs -/
def rRepL : R2 := fun x y H Q => ∃ (l : Addr) (k : Int) (xs : List V), x = .ref l ∧ y = .int k ∧ H l = some (.lst xs) ∧ 0 ≤ k ∧ k ≤ 1000 ∧ xs.length ≤ 60 ∧ New H (.lst (List.replicate k.toNat xs).flatten) fun p H2 => Q (.ref p) H2
theorem op_repL {X : Cx} : OpR X (binaryOp .Mult) rRepL := OpR.weak op_rep fun x y H Q ⟨l, k, xs, e1, e2, h1, h2, h3, h4, q⟩ => ⟨l, k, xs, e1, e2, h1, by omega, by omega, Nat.le_trans (Nat.mul_le_mul h4 (by omega : k.toNat ≤ 1000)) (by decide), fun p hp => q.go hp⟩
theorem at_ab {C : Addr} {hd : Addr × Addr} {H : Hp} {xs : List V} {ts : List Tg} {r : Int} (h : AbAll C hd H xs ts) (r0 : 0 ≤ r) (r1 : r < xs.length) : ∃ v t, atI xs r = some v ∧ t ∈ ts ∧ Ab C hd H v t := by
  have l : r.toNat < xs.length := by omega
  obtain ⟨t, hm, ht⟩ := h.get (List.getElem?_eq_getElem l)
  exact ⟨_, t, at_of (j := r.toNat) (by omega) (List.getElem?_eq_getElem l), List.mem_of_getElem? hm, ht⟩
theorem ab_lst {C x : Addr} {hd : Addr × Addr} {xs : List V} {H : Hp} (n : x ≠ hd.1 ∧ x ≠ hd.2) (h : H x = some (.lst xs)) : Ab C hd H (.ref x) .oth := .oth n (.inl ⟨xs, h⟩)
theorem ab_dK {C x : Addr} {hd : Addr × Addr} {xs : List (Key × V)} {H : Hp} (n : x ≠ hd.1 ∧ x ≠ hd.2) (h : H x = some (.dK xs)) : Ab C hd H (.ref x) .oth := .oth n (.inr (.inl ⟨xs, h⟩))
theorem ab_rep {C : Addr} {hd : Addr × Addr} {H : Hp} {xs : List V} {ts : List Tg} (h : AbAll C hd H xs ts) : ∀ k : Nat, AbAll C hd H (List.replicate k xs).flatten (List.replicate k ts).flatten
  | 0 => .nil
  | k + 1 => by
    rw [List.replicate_succ, List.replicate_succ, List.flatten_cons, List.flatten_cons]
    exact h.app (ab_rep h k)
theorem ab_cut {C : Addr} {hd : Addr × Addr} {H : Hp} {xs : List V} {ts : List Tg} (h : AbAll C hd H xs ts) (lo hi : Option Int) : ∃ us, AbAll C hd H (cutV xs lo hi) us ∧ (∀ t ∈ us, t ∈ ts) ∧ us.length ≤ ts.length := by
  unfold cutV
  refine ⟨_, (h.drop _).take _, fun t ht => List.mem_of_mem_drop (List.mem_of_mem_take ht), ?_⟩
  rw [List.length_take, List.length_drop]
  omega
theorem cut_le (xs : List V) (lo hi : Option Int) : (cutV xs lo hi).length ≤ xs.length := by
  unfold cutV
  rw [List.length_take, List.length_drop]
  omega
theorem ab_ints {C : Addr} {hd : Addr × Addr} {H : Hp} : ∀ ns : List Int, AbAll C hd H (ns.map V.int) (ns.map Tg.int)
  | [] => .nil
  | i :: ns => .cons (.int i) (ab_ints ns)
/-- the parts of a row, one behind another -/
def FTs (own : List Bool) (rows : Int) : List Nat → List Tg → Prop
  | [], [] => True
  | c :: cs, t :: ts => ftT own rows c t = true ∧ FTs own rows cs ts
  | _, _ => False
theorem FTs.all {own : List Bool} {rows : Int} : ∀ {cs : List Nat} {ts : List Tg}, FTs own rows cs ts → ts.length = cs.length ∧ ((cs.zip ts).all fun p => ftT own rows p.1 p.2) = true
  | [], [], _ => ⟨rfl, rfl⟩
  | c :: cs, t :: ts, h => by
    obtain ⟨e1, e2⟩ := FTs.all h.2
    refine ⟨by simp [e1], ?_⟩
    rw [List.zip_cons_cons, List.all_cons, h.1, e2]
    rfl
theorem rowT_true {own : List Bool} {rows : Int} {s : Str} {cs : List Nat} {ts : List Tg} (e : (tab_FORMS.lookup s).map (fun f => f.cps.toList) = some cs) (h : FTs own rows cs ts) : rowT own rows (.tup (.str s :: ts)) = true := by
  obtain ⟨f, e1, e2⟩ := Option.map_eq_some_iff.mp e
  show (match tab_FORMS.lookup s with | some f => decide (ts.length = f.cps.toList.length) && (f.cps.toList.zip ts).all fun p => ftT own rows p.1 p.2 | none => false) = true
  rw [e1]
  show (decide (ts.length = f.cps.toList.length) && (f.cps.toList.zip ts).all fun p => ftT own rows p.1 p.2) = true
  rw [e2, h.all.2, decide_eq_true h.all.1]
  rfl
section
variable {own : List Bool} {rows i : Int}
theorem fR (h0 : 0 ≤ i) (h1 : i < 8) : ftT own rows 114 (.int i) = true := by
  rw [ftT_r rfl]
  show (decide (0 ≤ i) && decide (i < 8)) = true
  rw [decide_eq_true h0, decide_eq_true h1]; rfl
theorem fN (h0 : -1000000 ≤ i) (h1 : i ≤ 1000000) : ftT own rows 110 (.int i) = true := by
  rw [ftT_n (by decide) rfl]
  show (decide (-1000000 ≤ i) && decide (i ≤ 1000000)) = true
  rw [decide_eq_true h0, decide_eq_true h1]; rfl
theorem fT (h0 : 0 ≤ i) (h1 : i ≤ rows) : ftT own rows 116 (.int i) = true := by
  rw [ftT_t (by decide) (by decide) rfl]
  show (decide (0 ≤ i) && decide (i ≤ rows)) = true
  rw [decide_eq_true h0, decide_eq_true h1]; rfl
theorem fC (h0 : 0 ≤ i) (h1 : i < own.length) : ftT own rows 99 (.int i) = true := by
  rw [ftT_o (by decide) (by decide) (by decide)]
  show ((decide (0 ≤ i) && decide (i < own.length)) && (decide (99 = 99) || _)) = true
  rw [decide_eq_true h0, decide_eq_true h1]; rfl
theorem fO (h0 : 0 ≤ i) (h1 : i < own.length) (h : own.getD i.toNat false = true) : ftT own rows 111 (.int i) = true := by
  rw [ftT_o (by decide) (by decide) (by decide)]
  show ((decide (0 ≤ i) && decide (i < own.length)) && (decide (111 = 99) || own.getD i.toNat false)) = true
  rw [decide_eq_true h0, decide_eq_true h1, h]; rfl
end
theorem w_par3 {i j l : Nat} {ta : TA} {D : Ends} {σ : L2.St} {H : Hp} (q : ta σ H fun vs H1 => ∃ u v w, vs = [u, v, w] ∧ D.nx (((σ.set i (some u)).set j (some v)).set l (some w)) H1) : tPar3 i j l ta D σ H := q
/-- right rows -/
def Rows (C : Addr) (hd : Addr × Addr) (H : Hp) (own : List Bool) (rows : Int) (xs : List V) : Prop := ∃ ts, AbAll C hd H xs ts ∧ ∀ t ∈ ts, rowT own rows t = true
section
variable {C : Addr} {hd : Addr × Addr} {H H' : Hp} {own : List Bool} {rows : Int} {xs ys : List V}
theorem Rows.g {o : Option (Addr × Addr)} (h : Rows C hd H own rows xs) (g : G o H H') (oh : OH o hd) : Rows C hd H' own rows xs := by
  obtain ⟨ts, h1, h2⟩ := h
  exact ⟨ts, h1.g g oh, h2⟩
theorem Rows.n (h : Rows C hd H own rows xs) (g : G none H H') : Rows C hd H' own rows xs := h.g g OH.n
theorem Rows.app (h : Rows C hd H own rows xs) (k : Rows C hd H own rows ys) : Rows C hd H own rows (xs ++ ys) := by
  obtain ⟨ts, h1, h2⟩ := h
  obtain ⟨us, k1, k2⟩ := k
  exact ⟨ts ++ us, h1.app k1, fun t ht => (List.mem_append.mp ht).elim (h2 t) (k2 t)⟩
theorem Rows.rep (h : Rows C hd H own rows xs) (k : Nat) : Rows C hd H own rows (List.replicate k xs).flatten := by
  obtain ⟨ts, h1, h2⟩ := h
  refine ⟨_, ab_rep h1 k, fun t ht => ?_⟩
  obtain ⟨l, hl, hm⟩ := List.mem_flatten.mp ht
  rw [(List.mem_replicate.mp hl).2] at hm
  exact h2 t hm
theorem Rows.nil : Rows C hd H own rows [] := ⟨[], .nil, fun _ h => nomatch h⟩
theorem Rows.cons {p : Addr} {s : Str} {vs : List V} {ts : List Tg} {cs : List Nat} (r : H p = some (.tup (.str s :: vs))) (al : AbAll C hd H vs ts) (e : (tab_FORMS.lookup s).map (fun f => f.cps.toList) = some cs) (f : FTs own rows cs ts) (h : Rows C hd H own rows xs) :
    Rows C hd H own rows (.ref p :: xs) := by
  obtain ⟨us, h1, h2⟩ := h
  refine ⟨.tup (.str s :: ts) :: us, .cons (.tup (.inl r) (.cons (.str s) al)) h1, fun t ht => ?_⟩
  rcases List.mem_cons.mp ht with e1 | e1
  · rw [e1]; exact rowT_true e f
  · exact h2 t e1
theorem Rows.get {r : Int} (h : Rows C hd H own rows xs) (r0 : 0 ≤ r) (r1 : r < xs.length) : ∃ v t, atI xs r = some v ∧ rowT own rows t = true ∧ Ab C hd H v t := by
  obtain ⟨ts, h1, h2⟩ := h
  obtain ⟨v, t, e, m, k⟩ := at_ab h1 r0 r1
  exact ⟨v, t, e, h2 t m, k⟩
end
/-- machine m's own cells, of owners that are told -/
def ownI (os : List Int) (m : Int) : List Bool := os.map fun o => decide (o = m)
def sp__law_row (K : PySem.W.Frag) (C : Addr) : Sp := fun vs H Q _ => ∃ (hd c op : Addr) (os : List Int) (m size : Int), vs = [.ref hd, .ref op, .int m, .int size] ∧ Hand H hd c ∧ SqT K H op (os.map V.int) ∧ 0 < os.length ∧ os.length ≤ 8 ∧ 0 ≤ size ∧ size ≤ 60 ∧
  ∀ v t H', G (some (hd, c)) H H' → Hand H' hd c → Ab C (hd, c) H' v t → rowT (ownI os m) size t = true → Q v H'
theorem fm_set : (tab_FORMS.lookup ("set" : Str)).map (fun f => f.cps.toList) = some [114, 110] := by decide +kernel
theorem fm_copy : (tab_FORMS.lookup ("copy" : Str)).map (fun f => f.cps.toList) = some [114, 114] := by decide +kernel
theorem fm_add : (tab_FORMS.lookup ("add" : Str)).map (fun f => f.cps.toList) = some [114, 114, 114] := by decide +kernel
theorem fm_take : (tab_FORMS.lookup ("take" : Str)).map (fun f => f.cps.toList) = some [114, 114, 114] := by decide +kernel
theorem fm_put : (tab_FORMS.lookup ("put" : Str)).map (fun f => f.cps.toList) = some [111, 114] := by decide +kernel
theorem fm_look : (tab_FORMS.lookup ("look" : Str)).map (fun f => f.cps.toList) = some [114, 99] := by decide +kernel
theorem fm_tell : (tab_FORMS.lookup ("tell" : Str)).map (fun f => f.cps.toList) = some [114] := by decide +kernel
theorem fm_rest : (tab_FORMS.lookup ("rest" : Str)).map (fun f => f.cps.toList) = some [] := by decide +kernel
theorem fm_same : (tab_FORMS.lookup ("same" : Str)).map (fun f => f.cps.toList) = some [114, 114, 116] := by decide +kernel
theorem fm_less : (tab_FORMS.lookup ("less" : Str)).map (fun f => f.cps.toList) = some [114, 114, 116] := by decide +kernel
theorem fm_go : (tab_FORMS.lookup ("go" : Str)).map (fun f => f.cps.toList) = some [116] := by decide +kernel
theorem fm_call : (tab_FORMS.lookup ("call" : Str)).map (fun f => f.cps.toList) = some [116] := by decide +kernel
theorem fm_back : (tab_FORMS.lookup ("back" : Str)).map (fun f => f.cps.toList) = some [] := by decide +kernel
theorem ok__law_row (T : Txt w K mg a) : FnOk P w K mg base CX0 2 a.f__law_row a.d__law_row P__law_row (sp__law_row K a.c_Program) := by
  refine T.F__law_row.ok sc__law_row (fun vs H Q E h => by obtain ⟨hd, c, op, os, m, size, rfl, _⟩ := h; rfl) (fun cdv A outer s0 H vs Q E hr h => ?_)
  obtain ⟨hd, c, op, os, m, size, rfl, hh, ho, l0, l8, s0, s60, k⟩ := h
  have G__law_draw : FnOk P w K mg base CX0 1 a.f__law_draw a.d__law_draw P__law_draw sp__law_draw := ok__law_draw T
  have lown : (ownI os m).length = os.length := by unfold ownI; rw [List.length_map]
  refine ⟨_, (pss_cons (ps_setLc (i := 5) (own := [("_law_cell", 4)]) (g := (gName 4))  rfl sc__law_row.nd rfl rfl (sw_true rfl rfl rfl (by decide +kernel)) (pi_range1 rfl T.n_range (pa_cons (pe_callB call_len_seq (by rfl) T.n_len (by decide +kernel) (pa_cons (pv 1) pa_nil)) pa_nil)) (blkOk_by (N := N__law_row) (sc := defScope s__law_row) (by decide +kernel)) (fun _ _ _ _ _ => (pg_name (i := 4) sc__law_row.nd rfl (by first | exact Or.inl rfl | exact Or.inr rfl))) (fun _ _ _ _ _ => (pts_one (pt_cmpR op_eq (pe_ix (k_ix_tup K) (pv 1) (pv 4) (fun _ _ => rfl)) (pv 2) (nomark _)))) (fun _ _ _ _ _ => (pv 4)))
    (pss_cons (ps_par3 (i := 6) (j := 7) (l := 8) rfl sc__law_row.nd rfl rfl rfl (by decide) (by decide) (by decide) rfl rfl rfl (pa_cons (pe_call (G__law_draw) (hr.mono (by omega)) rfl T.m__law_draw T.F__law_draw.kp T.b__law_draw .nil pass0 (pa_cons (pv 0) (pa_cons pe_int pa_nil))) (pa_cons (pe_call (G__law_draw) (hr.mono (by omega)) rfl T.m__law_draw T.F__law_draw.kp T.b__law_draw .nil pass0 (pa_cons (pv 0) (pa_cons pe_int pa_nil))) (pa_cons (pe_call (G__law_draw) (hr.mono (by omega)) rfl T.m__law_draw T.F__law_draw.kp T.b__law_draw .nil pass0 (pa_cons (pv 0) (pa_cons pe_int pa_nil))) pa_nil))) (by rfl))
    (pss_cons (ps_set (i := 9) sc__law_row.nd rfl (Or.inl rfl) (pe_call (G__law_draw) (hr.mono (by omega)) rfl T.m__law_draw T.F__law_draw.kp T.b__law_draw .nil pass0 (pa_cons (pv 0) (pa_cons (pe_op op_add (pv 3) pe_int) pa_nil))))
    (pss_cons (ps_set (i := 10) sc__law_row.nd rfl (Or.inl rfl) (pe_call (G__law_draw) (hr.mono (by omega)) rfl T.m__law_draw T.F__law_draw.kp T.b__law_draw .nil pass0 (pa_cons (pv 0) (pa_cons pe_int pa_nil))))
    (pss_cons (ps_set (i := 4) sc__law_row.nd rfl (Or.inl rfl) (pe_call (G__law_draw) (hr.mono (by omega)) rfl T.m__law_draw T.F__law_draw.kp T.b__law_draw .nil pass0 (pa_cons (pv 0) (pa_cons (pe_callB call_len_seq (by rfl) T.n_len (by decide +kernel) (pa_cons (pv 1) pa_nil)) pa_nil))))
    (pss_cons (ps_set (i := 11) sc__law_row.nd rfl (Or.inl rfl) (pe_ix ix_list (pe_lstN (pa_cons pe_int (pa_cons pe_int (pa_cons (pe_un un_neg pe_int) (pa_cons pe_int (pa_cons pe_int (pa_cons (pe_op op_pow pe_int pe_int) (pa_cons (pe_un un_neg (pe_op op_pow pe_int pe_int)) pa_nil)))))))) (pe_call (G__law_draw) (hr.mono (by omega)) rfl T.m__law_draw T.F__law_draw.kp T.b__law_draw .nil pass0 (pa_cons (pv 0) (pa_cons pe_int pa_nil))) (fun _ _ => rfl)))
    (pss_cons (ps_set (i := 12) sc__law_row.nd rfl (Or.inl rfl) (pe_lstN (pa_cons (pe_tupN (pa_cons pe_str (pa_cons (pv 6) (pa_cons (pv 11) pa_nil)))) (pa_cons (pe_tupN (pa_cons pe_str (pa_cons (pv 6) (pa_cons (pv 7) pa_nil)))) (pa_cons (pe_tupN (pa_cons pe_str (pa_cons (pv 6) (pa_cons (pv 7) (pa_cons (pv 8) pa_nil))))) (pa_cons (pe_tupN (pa_cons pe_str (pa_cons (pv 6) (pa_cons (pv 7) (pa_cons (pv 8) pa_nil))))) (pa_cons (pe_tupN (pa_cons pe_str (pa_cons (pv 6) pa_nil))) pa_nil)))))))
    (pss_cons (ps_set (i := 12) sc__law_row.nd rfl (Or.inl rfl) (pe_op op_catLN (pv 12) (pe_lstN (pa_cons (pe_tupN (pa_cons pe_str (pa_cons (pv 6) (pa_cons (pv 7) (pa_cons (pv 9) pa_nil))))) (pa_cons (pe_tupN (pa_cons pe_str (pa_cons (pv 6) (pa_cons (pv 7) (pa_cons (pv 9) pa_nil))))) (pa_cons (pe_tupN (pa_cons pe_str (pa_cons (pv 9) pa_nil))) (pa_cons (pe_tupN (pa_cons pe_str (pa_cons (pv 9) pa_nil))) (pa_cons (pe_tupN (pa_cons pe_str pa_nil)) (pa_cons (pe_tupN (pa_cons pe_str pa_nil)) pa_nil)))))))))
    (pss_cons (ps_set (i := 12) sc__law_row.nd rfl (Or.inl rfl) (pe_op op_catLN (pe_op op_catLN (pv 12) (pe_op op_repL (pe_lstN (pa_cons (pe_tupN (pa_cons pe_str (pa_cons (pv 6) (pa_cons (pv 4) pa_nil)))) pa_nil)) pe_int)) (pe_lstN (pa_cons (pe_tupN (pa_cons pe_str (pa_cons (pv 6) (pa_cons (pv 11) pa_nil)))) pa_nil))))
    (pss_cons (ps_if (pt_cmpR op_gt (pe_callB call_len_seq (by rfl) T.n_len (by decide +kernel) (pa_cons (pv 5) pa_nil)) pe_int (nomark _))
      (pss_one (ps_ret (pe_ix ix_list (pe_op op_catLN (pv 12) (pe_op op_repL (pe_lstN (pa_cons (pe_tupN (pa_cons pe_str (pa_cons (pe_ix ix_list (pv 5) (pe_call (G__law_draw) (hr.mono (by omega)) rfl T.m__law_draw T.F__law_draw.kp T.b__law_draw .nil pass0 (pa_cons (pv 0) (pa_cons (pe_callB call_len_seq (by rfl) T.n_len (by decide +kernel) (pa_cons (pv 5) pa_nil)) pa_nil))) (fun _ _ => rfl)) (pa_cons (pv 6) pa_nil)))) pa_nil)) pe_int)) (pv 10) (fun _ _ => rfl))))
      pss_nil)
    (pss_one (ps_ret (pe_ix ix_list (pe_op op_catLN (pv 12) (pe_op op_repL (pe_lstN (pa_cons (pe_tupN (pa_cons pe_str (pa_cons (pv 6) (pa_cons (pv 4) pa_nil)))) pa_nil)) pe_int)) (pv 10) (fun _ _ => rfl)))))))))))))), ?_⟩
  walk_at "ws"
  refine ⟨op, _, rfl, .inr ho, ?_⟩
  rw [List.length_map]
  refine i_rng1 (by omega) (by omega) ?_
  rw [Int.toNat_natCast]
  intro D hD
  refine lc_pure (K := K) (o := none) walk_range (by omega) hD (fun _ e => nomatch e) (fun i => os[i]?.bind fun o => if o = m then some (.int (i : Nat)) else none) (fun _ _ => trivial) ?_ ?_
  · rintro i _ H1 _ hi g1 ⟨rfl, rfl⟩ Qy Qn ky kn
    have e : os[i]? = some os[i] := List.getElem?_eq_getElem hi
    walk_at "ws"
    refine ⟨rfl, ?_⟩
    walk_at "ws"
    refine r_ixT (i := 0 + (i : Int)) (sqT_t g1.tups ho) (v := .int os[i]) (by rw [Int.zero_add]; exact atI_nat (by rw [List.getElem?_map, e]; rfl)) ?_
    walk_at "ws"
    refine w_ite (fun e1 => ?_) (fun e1 => ?_)
    · walk_at "ws"
      refine ky _ _ _ G.refl (.int _) rfl ?_
      rw [e]
      simp only [Option.bind_some]
      rw [if_pos (of_decide_eq_true e1), Int.zero_add]
    · refine kn _ G.refl ?_
      rw [e]
      simp only [Option.bind_some]
      rw [if_neg (of_decide_eq_false e1)]
  intro xs H1 g1 hD1 hds _
  obtain ⟨cs, rfl, lcs0, hcs⟩ : ∃ cs : List Int, xs = cs.map V.int ∧ cs.length ≤ 100000 ∧ ∀ z ∈ cs, 0 ≤ z ∧ z < os.length ∧ (ownI os m).getD z.toNat false = true := by
    have e : ((List.range os.length).filterMap fun i => os[i]?.bind fun o => if o = m then some (PyData.int (i : Nat)) else none) = ((List.range os.length).filterMap fun i => os[i]?.bind fun o => if o = m then some ((i : Nat) : Int) else none).map PyData.int := by
      rw [List.map_filterMap]
      congr 1
      funext i
      cases os[i]? with
      | none => rfl
      | some o =>
        simp only [Option.bind_some]
        by_cases h : o = m
        · rw [if_pos h, if_pos h]; rfl
        · rw [if_neg h, if_neg h]; rfl
    rw [e] at hds
    refine ⟨_, DpAll.of_ints hds, ?_, fun z hz => ?_⟩
    · have := List.length_filterMap_le (fun i => os[i]?.bind fun o => if o = m then some ((i : Nat) : Int) else none) (List.range os.length)
      rw [List.length_range] at this
      omega
    obtain ⟨i, hi, e2⟩ := List.mem_filterMap.mp hz
    have hi : i < os.length := List.mem_range.mp hi
    rw [List.getElem?_eq_getElem hi, Option.bind_some] at e2
    by_cases h : os[i] = m
    · rw [if_pos h] at e2
      cases e2
      refine ⟨by omega, by omega, ?_⟩
      unfold ownI
      rw [Int.toNat_natCast, List.getD_eq_getElem?_getD, List.getElem?_map, List.getElem?_eq_getElem hi]
      show decide (os[i] = m) = true
      exact decide_eq_true h
    · rw [if_neg h] at e2; cases e2
  clear hds
  have hh1 := g1.up.hand (hd, c) rfl hh
  have ho1 := sqT_t g1.tups ho
  have nD : D ≠ hd ∧ D ≠ c := hh.ne hD
  walk_at "wn"
  dsimp only
  refine w_seq ?_
  refine w_par3 ?_
  walk_at "ws"
  refine ⟨hd, c, 4, rfl, hh1, by decide, by decide, fun one H2 o0 o1 g2 hh2 => ?_⟩
  walk_at "ws"
  refine ⟨hd, c, 4, rfl, hh2, by decide, by decide, fun two H3 w0 w1 g3 hh3 => ?_⟩
  walk_at "ws"
  refine ⟨hd, c, 4, rfl, hh3, by decide, by decide, fun three H4 t0 t1 g4 hh4 => ?_⟩
  walk_at "ws"
  refine ⟨_, _, _, rfl, ?_⟩
  walk_at "ws"
  refine ⟨hd, c, size + 1, rfl, hh4, by omega, by omega, fun goal H6 q0 q1 g6 hh6 => ?_⟩
  walk_at "ws"
  refine ⟨hd, c, 20, rfl, hh6, by decide, by decide, fun kind H7 k0 k1 g7 hh7 => ?_⟩
  walk_at "ws"
  have g27 := ((g2.trans g3).trans g4).trans (g6.trans g7)
  refine ⟨op, _, rfl, .inr (sqT_t g27.tups ho1), ?_⟩
  rw [List.length_map]
  walk_at "ws"
  refine ⟨hd, c, (os.length : Int), rfl, hh7, by omega, by omega, fun cell H8 c0 c1 g8 hh8 => ?_⟩
  have g28 := g27.trans g8
  walk_at "ws"
  refine r_I ⟨by decide, by decide, by decide⟩ ?_
  walk_at "ws"
  refine r_I ⟨by decide, by decide, by decide⟩ ?_
  walk_at "ws"
  refine ⟨sz (by simp), fun l9 H9 hl9 g9 h9 => ?_⟩
  have hh9 := (g9 none).up.hand (hd, c) rfl hh8
  have n9 : l9 ≠ hd ∧ l9 ≠ c := hh8.ne hl9
  walk_at "ws"
  refine ⟨hd, c, 7, rfl, hh9, by decide, by decide, fun z H10 z0 z1 g10 hh10 => ?_⟩
  have h9 := g10.keep l9 _ (fun q e => by cases e; exact n9) h9

  obtain ⟨num, en, n0, n1⟩ : ∃ num : Int, atI [V.int 1, V.int 0, V.int (-1), V.int 2, V.int 7, V.int (10 ^ (6 : Int).toNat), V.int (-(10 ^ (6 : Int).toNat))] z = some (.int num) ∧ -1000000 ≤ num ∧ num ≤ 1000000 := by
    have : z = 0 ∨ z = 1 ∨ z = 2 ∨ z = 3 ∨ z = 4 ∨ z = 5 ∨ z = 6 := by omega
    rcases this with rfl | rfl | rfl | rfl | rfl | rfl | rfl
    · exact ⟨1, rfl, by decide, by decide⟩
    · exact ⟨0, rfl, by decide, by decide⟩
    · exact ⟨-1, rfl, by decide, by decide⟩
    · exact ⟨2, rfl, by decide, by decide⟩
    · exact ⟨7, rfl, by decide, by decide⟩
    · exact ⟨1000000, rfl, by decide, by decide⟩
    · exact ⟨-1000000, rfl, by decide, by decide⟩
  refine r_ixL (SqL.of h9) en ?_
  have g110 := (g1.up.trans g28).trans ((g9 _).trans g10)
  have hop := sqT_t ((g9 none).up.trans g10).tups (sqT_t g28.tups ho1)
  have hD10 := ((g28.trans (g9 _)).trans g10).keep D _ (fun q e => by cases e; exact nD) hD1
  clear h9 hl9 g6 g7 g8 g9 g10 g2 g3 g4 g27 g28 hh2 hh3 hh4 hh6 hh7 hh8 hh9 hh1 ho1 n9 z0 z1 en hD1 g1
  walk_at "ws"
  refine ⟨sz (by simp), fun p12 H12 hp12 g12 h12 => ?_⟩
  walk_at "ws"
  refine ⟨sz (by simp), fun p13 H13 hp13 g13 h13 => ?_⟩
  walk_at "ws"
  refine ⟨sz (by simp), fun p14 H14 hp14 g14 h14 => ?_⟩
  walk_at "ws"
  refine ⟨sz (by simp), fun p15 H15 hp15 g15 h15 => ?_⟩
  walk_at "ws"
  refine ⟨sz (by simp), fun p16 H16 hp16 g16 h16 => ?_⟩
  walk_at "ws"
  refine ⟨sz (by simp), fun p17 H17 hp17 g17 h17 => ?_⟩
  have q17 : G none H17 H17 := G.refl
  have q16 := (g17 none).trans q17
  have q15 := (g16 none).trans q16
  have q14 := (g15 none).trans q15
  have q13 := (g14 none).trans q14
  have q12 := (g13 none).trans q13
  have R1 : Rows a.c_Program (hd, c) H17 (ownI os m) size [.ref p12, .ref p13, .ref p14, .ref p15, .ref p16] := (.cons (q12.all _ _ h12) (.cons (.int _) (.cons (.int _) (.nil))) fm_set ⟨fR o0 (by omega), ⟨fN n0 n1, trivial⟩⟩ (.cons (q13.all _ _ h13) (.cons (.int _) (.cons (.int _) (.nil))) fm_copy ⟨fR o0 (by omega), ⟨fR w0 (by omega), trivial⟩⟩ (.cons (q14.all _ _ h14) (.cons (.int _) (.cons (.int _) (.cons (.int _) (.nil)))) fm_add ⟨fR o0 (by omega), ⟨fR w0 (by omega), ⟨fR t0 (by omega), trivial⟩⟩⟩ (.cons (q15.all _ _ h15) (.cons (.int _) (.cons (.int _) (.cons (.int _) (.nil)))) fm_take ⟨fR o0 (by omega), ⟨fR w0 (by omega), ⟨fR t0 (by omega), trivial⟩⟩⟩ (.cons (q16.all _ _ h16) (.cons (.int _) (.nil)) fm_tell ⟨fR o0 (by omega), trivial⟩ .nil)))))
  have x17 := (g12 none).trans q12
  obtain ⟨L1, eL1⟩ : ∃ L : List V, L = [.ref p12, .ref p13, .ref p14, .ref p15, .ref p16] := ⟨_, rfl⟩
  rw [← eL1] at R1 h17
  have l1 : L1.length = 5 := by rw [eL1]; rfl
  clear eL1 h12 h13 h14 h15 h16 g12 g13 g14 g15 g16 g17 q12 q13 q14 q15 q16 q17 hp12 hp13 hp14 hp15 hp16
  walk_at "ws"
  refine ⟨sz (by simp), fun p18 H18 hp18 g18 h18 => ?_⟩
  walk_at "ws"
  refine ⟨sz (by simp), fun p19 H19 hp19 g19 h19 => ?_⟩
  walk_at "ws"
  refine ⟨sz (by simp), fun p20 H20 hp20 g20 h20 => ?_⟩
  walk_at "ws"
  refine ⟨sz (by simp), fun p21 H21 hp21 g21 h21 => ?_⟩
  walk_at "ws"
  refine ⟨sz (by simp), fun p22 H22 hp22 g22 h22 => ?_⟩
  walk_at "ws"
  refine ⟨sz (by simp), fun p23 H23 hp23 g23 h23 => ?_⟩
  walk_at "ws"
  refine ⟨sz (by simp), fun p24 H24 hp24 g24 h24 => ?_⟩
  have q24 : G none H24 H24 := G.refl
  have q23 := (g24 none).trans q24
  have q22 := (g23 none).trans q23
  have q21 := (g22 none).trans q22
  have q20 := (g21 none).trans q21
  have q19 := (g20 none).trans q20
  have q18 := (g19 none).trans q19
  have R2 : Rows a.c_Program (hd, c) H24 (ownI os m) size [.ref p18, .ref p19, .ref p20, .ref p21, .ref p22, .ref p23] := (.cons (q18.all _ _ h18) (.cons (.int _) (.cons (.int _) (.cons (.int _) (.nil)))) fm_same ⟨fR o0 (by omega), ⟨fR w0 (by omega), ⟨fT q0 (by omega), trivial⟩⟩⟩ (.cons (q19.all _ _ h19) (.cons (.int _) (.cons (.int _) (.cons (.int _) (.nil)))) fm_less ⟨fR o0 (by omega), ⟨fR w0 (by omega), ⟨fT q0 (by omega), trivial⟩⟩⟩ (.cons (q20.all _ _ h20) (.cons (.int _) (.nil)) fm_go ⟨fT q0 (by omega), trivial⟩ (.cons (q21.all _ _ h21) (.cons (.int _) (.nil)) fm_call ⟨fT q0 (by omega), trivial⟩ (.cons (q22.all _ _ h22) (.nil) fm_back trivial (.cons (q23.all _ _ h23) (.nil) fm_rest trivial .nil))))))
  have x24 := (g18 none).trans q18
  refine ⟨p17, p24, L1, _, rfl, rfl, x24.all _ _ h17, h24, by rw [l1]; simp, fun p25 H25 hp25 g25 h25 => ?_⟩
  have R2 := (R1.n x24).app R2
  have x25 := (x17.trans x24).trans (g25 none)
  have R2 := R2.n (g25 none)
  obtain ⟨L2, eL2⟩ : ∃ L : List V, L = L1 ++ [.ref p18, .ref p19, .ref p20, .ref p21, .ref p22, .ref p23] := ⟨_, rfl⟩
  rw [← eL2] at R2 h25
  have l2 : L2.length = 11 := by rw [eL2, List.length_append, l1]; rfl
  clear eL2 l1 R1 h17 h18 h19 h20 h21 h22 h23 h24 g18 g19 g20 g21 g22 g23 g24 g25 q18 q19 q20 q21 q22 q23 q24 hp17 hp18 hp19 hp20 hp21 hp22 hp23 hp24 x17 x24
  walk_at "ws"
  refine ⟨sz (by simp), fun p26 H26 hp26 g26 h26 => ?_⟩
  walk_at "ws"
  refine ⟨sz (by simp), fun p27 H27 hp27 g27 h27 => ?_⟩
  walk_at "ws"
  refine ⟨p27, 4, _, rfl, rfl, h27, by decide, by decide, by simp, fun p28 H28 hp28 g28 h28 => ?_⟩
  have y28 := ((g26 none).trans (g27 none)).trans (g28 none)
  refine ⟨p25, p28, L2, _, rfl, rfl, y28.all _ _ h25, h28, by rw [l2, show (List.replicate (4 : Int).toNat [V.ref p26]).flatten.length = 4 from rfl]; decide, fun p29 H29 hp29 g29 h29 => ?_⟩
  walk_at "ws"
  refine ⟨sz (by simp), fun p30 H30 hp30 g30 h30 => ?_⟩
  walk_at "ws"
  refine ⟨sz (by simp), fun p31 H31 hp31 g31 h31 => ?_⟩
  have y31 := (g30 none).trans (g31 none)
  refine ⟨p29, p31, _, _, rfl, rfl, y31.all _ _ h29, h31, by rw [List.length_append, l2, show (List.replicate (4 : Int).toNat [V.ref p26]).flatten.length = 4 from rfl]; exact (by decide : 11 + 4 + 1 ≤ 100000), fun p32 H32 hp32 g32 h32 => ?_⟩
  have z32 := g32 none
  have z31 := (g31 none).trans z32
  have z29 := (g30 none).trans z31
  have z28 := (g29 none).trans z29
  have z27 := (g28 none).trans z28
  have z26 := (g27 none).trans z27
  have z25 := (g26 none).trans z26
  have R3 : Rows a.c_Program (hd, c) H32 (ownI os m) size ((L2 ++ (List.replicate (4 : Int).toNat [V.ref p26]).flatten) ++ [V.ref p30]) :=
    ((R2.n z25).app (Rows.rep (.cons (z26.all _ _ h26) (.cons (.int _) (.cons (.int _) .nil)) fm_look ⟨fR o0 (by omega), fC c0 (by rw [lown]; omega), trivial⟩ .nil) 4)).app (.cons (z31.all _ _ h30) (.cons (.int _) (.cons (.int _) .nil)) fm_set ⟨fR o0 (by omega), fN n0 n1, trivial⟩ .nil)
  have x32 := x25.trans z25
  have n32_ : p32 ≠ hd ∧ p32 ≠ c := ((x25.trans ((g26 none).trans ((g27 none).trans ((g28 none).trans ((g29 none).trans ((g30 none).trans (g31 none))))))).up.hand (hd, c) rfl hh10).ne hp32
  obtain ⟨L3, eL3⟩ : ∃ L : List V, L = (L2 ++ (List.replicate (4 : Int).toNat [V.ref p26]).flatten) ++ [V.ref p30] := ⟨_, rfl⟩
  rw [← eL3] at R3 h32
  have l3 : L3.length = 16 := by rw [eL3, List.length_append, List.length_append, l2]; rfl
  clear eL3 l2 R2 h25 h26 h27 h28 h29 h30 h31 g26 g27 g28 g29 g30 g31 g32 z26 z27 z28 z29 z31 z32 y28 y31 z25 x25 hp25 hp26 hp27 hp28 hp29 hp30 hp31
  have hD32 := x32.all _ _ hD10
  have g0 := g110.trans x32.up
  have hh32 := x32.up.hand (hd, c) rfl hh10
  clear hD10 g110 x32 hh10 hop
  walk_at "ws"
  refine ⟨D, _, rfl, .inl (SqL.of hD32), ?_⟩
  rw [List.length_map]
  walk_at "ws"
  refine w_ite (fun e => ?_) (fun e => ?_)
  · have e : 0 < cs.length := by simpa using e
    have lcs : cs.length ≤ 100000 := lcs0
    walk_at "ws"
    refine ⟨D, _, rfl, .inl (SqL.of hD32), ?_⟩
    rw [List.length_map]
    walk_at "ws"
    refine ⟨hd, c, (cs.length : Int), rfl, hh32, by omega, by omega, fun y H33 y0 y1 g33 hh33 => ?_⟩
    have hD33 := g33.keep D _ (fun q e => by cases e; exact nD) hD32
    obtain ⟨n, rfl⟩ : ∃ n : Nat, y = (n : Int) := ⟨y.toNat, by omega⟩
    have hn : n < cs.length := by omega
    have hz := hcs _ (List.getElem_mem hn)
    refine r_ixL (SqL.of hD33) (v := .int cs[n]) (atI_nat (by rw [List.getElem?_map, List.getElem?_eq_getElem hn]; rfl)) ?_
    walk_at "ws"
    refine ⟨sz (by simp), fun p34 H34 hp34 g34 h34 => ?_⟩
    walk_at "ws"
    refine ⟨sz (by simp), fun p35 H35 hp35 g35 h35 => ?_⟩
    walk_at "ws"
    refine ⟨p35, 4, _, rfl, rfl, h35, by decide, by decide, by simp, fun p36 H36 hp36 g36 h36 => ?_⟩
    have z36 := ((g34 none).trans (g35 none)).trans (g36 none)
    have n32 : p32 ≠ hd ∧ p32 ≠ c := n32_
    refine ⟨p32, p36, L3, _, rfl, rfl, z36.all _ _ (g33.keep p32 _ (fun q e => by cases e; exact n32) h32), h36, by rw [l3, show (List.replicate (4 : Int).toNat [V.ref p34]).flatten.length = 4 from rfl]; decide, fun p37 H37 hp37 g37 h37 => ?_⟩
    have z37 := (g35 none).trans ((g36 none).trans (g37 none))
    have z34 := (g34 none).trans z37
    have R4 : Rows a.c_Program (hd, c) H37 (ownI os m) size (L3 ++ (List.replicate (4 : Int).toNat [V.ref p34]).flatten) :=
      ((R3.g g33 OH.s).n z34).app (Rows.rep (.cons (z37.all _ _ h34) (.cons (.int _) (.cons (.int _) .nil)) fm_put ⟨fO hz.1 (by rw [lown]; omega) hz.2.2, fR o0 (by omega), trivial⟩ .nil) 4)
    walk_at "ws"
    obtain ⟨v, t, e1, e2, e3⟩ := R4.get k0 (by rw [List.length_append, l3]; exact k1)
    refine r_ixL (SqL.of h37) e1 ?_
    exact k v t H37 ((g0.trans g33).trans z34.up) (z34.up.hand (hd, c) rfl hh33) e3 e2
  · walk_at "ws"
    refine ⟨sz (by simp), fun p34 H34 hp34 g34 h34 => ?_⟩
    walk_at "ws"
    refine ⟨sz (by simp), fun p35 H35 hp35 g35 h35 => ?_⟩
    walk_at "ws"
    refine ⟨p35, 4, _, rfl, rfl, h35, by decide, by decide, by simp, fun p36 H36 hp36 g36 h36 => ?_⟩
    have z36 := ((g34 none).trans (g35 none)).trans (g36 none)
    refine ⟨p32, p36, L3, _, rfl, rfl, z36.all _ _ h32, h36, by rw [l3, show (List.replicate (4 : Int).toNat [V.ref p34]).flatten.length = 4 from rfl]; decide, fun p37 H37 hp37 g37 h37 => ?_⟩
    have z37 := (g35 none).trans ((g36 none).trans (g37 none))
    have z34 := (g34 none).trans z37
    have R4 : Rows a.c_Program (hd, c) H37 (ownI os m) size (L3 ++ (List.replicate (4 : Int).toNat [V.ref p34]).flatten) :=
      (R3.n z34).app (Rows.rep (.cons (z37.all _ _ h34) (.cons (.int _) (.cons (.int _) .nil)) fm_look ⟨fR o0 (by omega), fC c0 (by rw [lown]; omega), trivial⟩ .nil) 4)
    walk_at "ws"
    obtain ⟨v, t, e1, e2, e3⟩ := R4.get k0 (by rw [List.length_append, l3]; exact k1)
    refine r_ixL (SqL.of h37) e1 ?_
    exact k v t H37 (g0.trans z34.up) (z34.up.hand (hd, c) rfl hh32) e3 e2

end
end Mine
/-! ## K11 -/


namespace Mine
section
variable {P : Program} {w : World} {K : PySem.W.Frag} {mg : Str → Option Value} {base : Heap} {a : Ads}

/-! ### _law_program -/
mutual
def pureT : Tg → Bool
  | .oth => false
  | .tup ts => pureTs ts
  | _ => true
def pureTs : List Tg → Bool
  | [] => true
  | t :: ts => pureT t && pureTs ts
end
theorem pureTs_all : ∀ {ts : List Tg}, pureTs ts = true ↔ ∀ t ∈ ts, pureT t = true
  | [] => by simp [pureTs]
  | t :: ts => by simp [pureTs, pureTs_all (ts := ts)]
mutual
theorem Ab.ts {C : Addr} {hd : Addr × Addr} {H H' : Hp} (k : Ts H H') : ∀ (t : Tg) (v : V), pureT t = true → Ab C hd H v t → Ab C hd H' v t
  | .non, _, _, h => by cases h; exact .non
  | .bl b, _, _, h => by cases h; exact .bl b
  | .int b, _, _, h => by cases h; exact .int b
  | .str b, _, _, h => by cases h; exact .str b
  | .oth, _, e, _ => Bool.noConfusion (show false = true from e)
  | .tup ts, _, e, h => by
    cases h with
    | tup r a => exact .tup (k _ _ r) (AbAll.ts k ts _ (by rw [pureT] at e; exact e) a)
theorem AbAll.ts {C : Addr} {hd : Addr × Addr} {H H' : Hp} (k : Ts H H') : ∀ (ts : List Tg) (vs : List V), pureTs ts = true → AbAll C hd H vs ts → AbAll C hd H' vs ts
  | [], _, _, h => by cases h; exact .nil
  | t :: ts, _, e, h => by
    cases h with
    | cons h1 h2 =>
      rw [pureTs, Bool.and_eq_true] at e
      exact .cons (Ab.ts k t _ e.1 h1) (AbAll.ts k ts _ e.2 h2)
end
theorem ts_put {H : Hp} {D : Addr} {xs : List V} {u : HO} (h : H D = some (.lst xs)) : Ts H (upd H D u) := fun a ys r => by
  have n : a ≠ D := fun e => by
    rw [e] at r
    rcases r with r | ⟨o, r⟩ <;> rw [h] at r <;> cases r
  rcases r with r | ⟨o, r⟩
  · exact .inl (by rw [upd_ne n]; exact r)
  · exact .inr ⟨o, by rw [upd_ne n]; exact r⟩
theorem ftT_int {own : List Bool} {rows : Int} {c : Nat} {t : Tg} (e : ftT own rows c t = true) : ∃ i, t = .int i := by
  have b0 : ∀ {lo hi : Int}, btw lo hi t = true → ∃ i, t = .int i := fun {lo hi} e => by
    cases t with
    | int i => exact ⟨i, rfl⟩
    | tup _ => exact Bool.noConfusion (show false = true from e)
    | non => exact Bool.noConfusion (show false = true from e)
    | bl _ => exact Bool.noConfusion (show false = true from e)
    | str _ => exact Bool.noConfusion (show false = true from e)
    | oth => exact Bool.noConfusion (show false = true from e)
  by_cases e1 : c = 114
  · rw [ftT_r e1] at e; exact blw_int e
  · by_cases e2 : c = 110
    · rw [ftT_n e1 e2] at e; exact b0 e
    · by_cases e3 : c = 116
      · rw [ftT_t e1 e2 e3] at e; exact b0 e
      · rw [ftT_o e1 e2 e3, Bool.and_eq_true] at e; exact blw_int e.1
theorem zip_all_int {own : List Bool} {rows : Int} : ∀ {cs : List Nat} {ts : List Tg}, ts.length = cs.length → ((cs.zip ts).all fun p => ftT own rows p.1 p.2) = true → ∀ t ∈ ts, ∃ i, t = .int i
  | [], [], _, _, t, ht => nomatch ht
  | c :: cs, t :: ts, e, h, u, hu => by
    rw [List.zip_cons_cons, List.all_cons, Bool.and_eq_true] at h
    rcases List.mem_cons.mp hu with q | q
    · rw [q]; exact ftT_int h.1
    · exact zip_all_int (by simpa using e) h.2 u q
/-- what a right row is -/
theorem rowT_is {own : List Bool} {rows : Int} {t : Tg} (e : rowT own rows t = true) : ∃ s ts, t = .tup (.str s :: ts) ∧ (∀ u ∈ ts, ∃ i, u = .int i) ∧ ts.length ≤ 3 ∧ ∃ f, tab_FORMS.lookup s = some f := by
  cases t with
  | tup us =>
    cases us with
    | nil => exact Bool.noConfusion (show false = true from e)
    | cons u us =>
      cases u with
      | str s =>
        have e : (match tab_FORMS.lookup s with | some f => decide (us.length = f.cps.toList.length) && (f.cps.toList.zip us).all fun p => ftT own rows p.1 p.2 | none => false) = true := e
        cases q : tab_FORMS.lookup s with
        | none => rw [q] at e; cases e
        | some f =>
          rw [q] at e
          have e : (decide (us.length = f.cps.toList.length) && (f.cps.toList.zip us).all fun p => ftT own rows p.1 p.2) = true := e
          rw [Bool.and_eq_true, decide_eq_true_eq] at e
          have := form_le q
          refine ⟨s, us, rfl, zip_all_int e.1 e.2, ?_, f, q⟩
          rw [e.1]; simpa using this
      | tup _ => exact Bool.noConfusion (show false = true from e)
      | non => exact Bool.noConfusion (show false = true from e)
      | bl _ => exact Bool.noConfusion (show false = true from e)
      | int _ => exact Bool.noConfusion (show false = true from e)
      | oth => exact Bool.noConfusion (show false = true from e)
  | non => exact Bool.noConfusion (show false = true from e)
  | bl _ => exact Bool.noConfusion (show false = true from e)
  | int _ => exact Bool.noConfusion (show false = true from e)
  | str _ => exact Bool.noConfusion (show false = true from e)
  | oth => exact Bool.noConfusion (show false = true from e)
theorem rowT_pure {own : List Bool} {rows : Int} {t : Tg} (e : rowT own rows t = true) : pureT t = true := by
  obtain ⟨s, ts, rfl, h, _⟩ := rowT_is e
  show pureTs (.str s :: ts) = true
  rw [pureTs_all]
  intro u hu
  rcases List.mem_cons.mp hu with q | q
  · rw [q]; rfl
  · obtain ⟨i, rfl⟩ := h u q
    rfl
abbrev tgI (os : List Int) : Tg := .tup (os.map Tg.int)
/-- the codes, machine by machine -/
def CodesOk (os : List Int) (cs : List Tg) : Prop := ∀ j t, cs[j]? = some t → ∃ rs, t = .tup rs ∧ rs.length ≤ 60 ∧ ∀ r ∈ rs, rowT (ownI os (j : Nat)) (rs.length : Nat) r = true
theorem CodesOk.pure {os : List Int} {cs : List Tg} (h : CodesOk os cs) : pureTs cs = true := pureTs_all.mpr fun t ht => by
  obtain ⟨j, hj, rfl⟩ := List.getElem_of_mem ht
  obtain ⟨rs, e, _, hr⟩ := h j _ (List.getElem?_eq_getElem hj)
  rw [e]
  show pureTs rs = true
  exact pureTs_all.mpr fun r m => rowT_pure (hr r m)
theorem CodesOk.app {os : List Int} {cs rs : List Tg} (h : CodesOk os cs) (l : rs.length ≤ 60) (k : ∀ r ∈ rs, rowT (ownI os (cs.length : Nat)) (rs.length : Nat) r = true) : CodesOk os (cs ++ [.tup rs]) := fun j t e => by
  by_cases c : j < cs.length
  · rw [List.getElem?_append_left c] at e
    exact h j t e
  · rw [List.getElem?_append_right (by omega)] at e
    cases q : j - cs.length with
    | zero =>
      rw [q] at e
      simp at e
      have : j = cs.length := by omega
      exact ⟨rs, e.symm, l, by rw [this]; exact k⟩
    | succ n => rw [q] at e; simp at e
structure IsProg (os : List Int) (cs : List Tg) : Prop where
  o1 : 1 ≤ os.length
  o8 : os.length ≤ 8
  c1 : 1 ≤ cs.length
  c7 : cs.length ≤ 7
  own : ∀ o ∈ os, 0 ≤ o ∧ o < cs.length
  ok : CodesOk os cs
theorem tsz_len {lo hi : Int} {ts : List Tg} (h1 : lo ≤ ts.length) (h2 : (ts.length : Int) ≤ hi) : tsz lo hi (.tup ts) = true := by
  show (decide (lo ≤ ts.length) && decide ((ts.length : Int) ≤ hi)) = true
  rw [decide_eq_true h1, decide_eq_true h2]; rfl
theorem ownB_I (os : List Int) (m : Nat) : ownB (os.map Tg.int) m = ownI os m := by
  unfold ownB ownI
  rw [List.map_map]
  rfl
theorem due_prog {os : List Int} {cs : List Tg} (h : IsProg os cs) : due (tgI os) (.tup cs) = none := by
  have o1 := h.o1
  have o8 := h.o8
  have c1 := h.c1
  have c7 := h.c7
  have ok := h.ok
  refine due_6 (tsz_len (by omega) (by omega)) (tsz_len (by rw [List.length_map]; omega) (by rw [List.length_map]; omega)) (fw_none fun j hj => ?_) (fw_none fun j hj => ?_) (fw_none fun j hj => ?_)
  · rw [List.length_map] at hj
    unfold okO
    rw [getD_of (by rw [List.getElem?_map, List.getElem?_eq_getElem hj]; rfl : (os.map Tg.int)[j]? = some (.int os[j]))]
    have := h.own _ (List.getElem_mem hj)
    show (decide (0 ≤ os[j]) && decide (os[j] < cs.length)) = true
    rw [decide_eq_true this.1, decide_eq_true this.2]; rfl
  · obtain ⟨rs, e, l, _⟩ := ok j _ (List.getElem?_eq_getElem hj)
    unfold okC
    rw [getD_of (List.getElem?_eq_getElem hj), e]
    exact tsz_len (by omega) (by omega)
  · obtain ⟨rs, e, l, k⟩ := ok j _ (List.getElem?_eq_getElem hj)
    have e2 : wrR (os.map Tg.int) cs j = none := by
      unfold wrR
      rw [getD_of (List.getElem?_eq_getElem hj), e]
      refine fw_none fun i hi => ?_
      have hi : i < rs.length := hi
      unfold okR
      rw [getD_of (List.getElem?_eq_getElem hj), e, ownB_I]
      show rowT (ownI os j) (rs.length : Nat) (rs.getD i .non) = true
      rw [getD_of (List.getElem?_eq_getElem hi)]
      exact k _ (List.getElem_mem hi)
    rw [e2]; rfl
def sp__law_program (K : PySem.W.Frag) (C : Addr) : Sp := fun vs H Q _ => ∃ (hd c : Addr) (m most : Int), vs = [.ref hd, .int m, .int most] ∧ Hand H hd c ∧ 1 ≤ m ∧ m ≤ 7 ∧ 0 ≤ most ∧ most ≤ 60 ∧
  ∀ q op cp xs os cs H', G (some (hd, c)) H H' → Hand H' hd c → Rd H' q (.tup [.ref op, .ref cp]) → Rd H' op (.tup (os.map V.int)) → Rd H' cp (.tup xs) → AbAll C (hd, c) H' xs cs → IsProg os cs → (cs.length : Int) = m → Q (.ref q) H'
theorem ok__law_program (T : Txt w K mg a) : FnOk P w K mg base CX0 3 a.f__law_program a.d__law_program P__law_program (sp__law_program K a.c_Program) := by
  refine T.F__law_program.ok sc__law_program (fun vs H Q E h => by obtain ⟨hd, c, m, most, rfl, _⟩ := h; rfl) (fun cdv A outer s H vs Q E hr h => ?_)
  obtain ⟨hd, c, m, most, rfl, hh, m1, m7, b0, b1, k⟩ := h
  have G__law_draw : FnOk P w K mg base CX0 1 a.f__law_draw a.d__law_draw P__law_draw sp__law_draw := ok__law_draw T
  have G__law_row : FnOk P w K mg base CX0 2 a.f__law_row a.d__law_row P__law_row (sp__law_row K a.c_Program) := ok__law_row T
  refine ⟨_, (pss_cons (ps_set (i := 3) sc__law_program.nd rfl (Or.inr rfl) (pe_callTy call_tupleN (by rfl) T.n_tuple (by decide +kernel) (pa_cons (pe_lc (own := [("_law_cell", 7)]) (g := (gName 7)) (tt := tYes) rfl sc__law_program.nd (pi_range1 rfl T.n_range (pa_cons (pe_op op_add pe_int (pe_call (G__law_draw) (hr.mono (by omega)) rfl T.m__law_draw T.F__law_draw.kp T.b__law_draw .nil pass0 (pa_cons (pv 0) (pa_cons pe_int pa_nil)))) pa_nil)) (blkOk_by (N := N__law_program) (sc := defScope s__law_program) (by decide +kernel)) (fun _ _ _ _ _ => (pg_name (i := 7) sc__law_program.nd rfl (by first | exact Or.inl rfl | exact Or.inr rfl))) (fun _ _ _ _ _ => pts_nil) (fun _ _ _ _ _ => (pe_call (G__law_draw) (hr.mono (by omega)) rfl T.m__law_draw T.F__law_draw.kp T.b__law_draw .nil pass0 (pa_cons (pv 0) (pa_cons (pv 1) pa_nil))))) pa_nil)))
  (pss_cons (ps_set (i := 4) sc__law_program.nd rfl (Or.inl rfl) (pe_lstN pa_nil))
  (pss_cons (ps_for PassesOwn.never rfl (pi_range1 rfl T.n_range (pa_cons (pv 1) pa_nil)) (pg_name (i := 5) sc__law_program.nd rfl (Or.inr rfl))
    (pss_cons (ps_set (i := 6) sc__law_program.nd rfl (Or.inr rfl) (pe_call (G__law_draw) (hr.mono (by omega)) rfl T.m__law_draw T.F__law_draw.kp T.b__law_draw .nil pass0 (pa_cons (pv 0) (pa_cons (pe_op op_add (pv 2) pe_int) pa_nil))))
  (pss_one (ps_expr (pe_bm PySem.F.plainAttrs_list PySem.F.slot_list_append PySem.F.type_list_append mt_append (pv 4) (pa_cons (pe_callTy call_tupleN (by rfl) T.n_tuple (by decide +kernel) (pa_cons (pe_lc (own := [("_law_at", 8)]) (g := (gName 8)) (tt := tYes) rfl sc__law_program.nd (pi_range1 rfl T.n_range (pa_cons (pv 6) pa_nil)) (blkOk_by (N := N__law_program) (sc := defScope s__law_program) (by decide +kernel)) (fun _ _ _ _ _ => (pg_name (i := 8) sc__law_program.nd rfl (by first | exact Or.inl rfl | exact Or.inr rfl))) (fun _ _ _ _ _ => pts_nil) (fun _ _ _ _ _ => (pe_call (G__law_row) (hr.mono (by omega)) rfl T.m__law_row T.F__law_row.kp T.b__law_row .nil pass0 (pa_cons (pv 0) (pa_cons (pv 3) (pa_cons (pv 5) (pa_cons (pv 6) pa_nil))))))) pa_nil)) pa_nil))))))
  (pss_one (ps_ret (pe_tupN (pa_cons (pv 3) (pa_cons (pe_callTy call_tupleN (by rfl) T.n_tuple (by decide +kernel) (pa_cons (pv 4) pa_nil)) pa_nil)))))))), ?_⟩
  walk_at "ws"
  refine ⟨hd, c, 4, rfl, hh, by decide, by decide, fun z H1 z0 z1 g1 hh1 => ?_⟩
  walk_at "ws"
  obtain ⟨n, rfl⟩ : ∃ n : Nat, z = (n : Int) := ⟨z.toNat, by omega⟩
  refine i_rng1 (by omega) (by omega) ?_
  intro D hD
  have nD : D ≠ hd ∧ D ≠ c := hh1.ne hD
  have hh1p : ∀ p, some (hd, c) = some p → Hand H1 p.1 p.2 := fun p e => by cases e; exact hh1
  refine lc_data (K := K) (o := some (hd, c)) walk_range (by omega) hD hh1p (fun i acc _ => ∃ ns : List Int, acc = ns.map PyData.int ∧ (∀ w ∈ ns, 0 ≤ w ∧ w < m) ∧ ns.length = i) (fun _ _ _ _ _ h _ => h) ⟨[], rfl, (fun _ h => nomatch h), rfl⟩ (fun _ _ _ _ _ => trivial) ?_ ?_
  · rintro i _ acc _ H2 hi g2 ⟨ns, rfl, hns, ln⟩ ⟨rfl, rfl⟩ Qy Qn ky kn
    walk_at "ws"
    refine ⟨rfl, ?_⟩
    walk_at "ws"
    refine ⟨hd, c, m, rfl, g2.hand (hd, c) rfl hh1, by omega, by omega, fun w H3 w0 w1 g3 hh3 => ?_⟩
    refine ky _ _ _ g3 (.int w) rfl ⟨ns ++ [w], by rw [List.map_append]; rfl, fun v hv => ?_, by rw [List.length_append, List.length_singleton, ln]⟩
    rcases List.mem_append.mp hv with z | z
    · exact hns v z
    · have e : v = w := by simpa using z
      rw [e]; exact ⟨w0, w1⟩
  rintro _ xs H2 ⟨os, rfl, hos, los⟩ g2 hD2 hds _
  obtain rfl := DpAll.of_ints hds
  have hh2 : Hand H2 hd c := g2.hand (hd, c) rfl hh1
  walk_at "ws"
  refine ⟨D, _, rfl, .inl ⟨SqL.of hD2, fun op H3 hop g3 h3 => ?_⟩⟩
  have hh3 := (g3 none).up.hand (hd, c) rfl hh2
  walk_at "ws"
  refine ⟨sz (by simp), fun l H4 hl g4 h4 => ?_⟩
  have hh4 := (g4 none).up.hand (hd, c) rfl hh3
  have nl_ : l ≠ hd ∧ l ≠ c := hh3.ne hl
  have g03 := (g1.trans g2).trans (g3 _)
  have ro3 : Rd H3 op (.tup (os.map V.int)) := .inl h3
  have los8 : 1 ≤ os.length ∧ os.length ≤ 4 := by omega
  clear hds hD2 hop h3 g2 g3 hh1p hh2 hD
  walk_at "ws"
  refine i_rng1 (by omega) (by omega) ?_
  refine for_it walk_range (fun i σ H' => ∃ (xs : List V) (cs : List Tg) (u5 u6 u7 u8 : Option V), σ = [some (.ref hd), some (.int m), some (.int most), some (.ref op), some (.ref l), u5, u6, u7, u8] ∧ G (some (hd, c)) H3 H' ∧ Hand H' hd c ∧ H' l = some (.lst xs) ∧ AbAll a.c_Program (hd, c) H' xs cs ∧ CodesOk os cs ∧ cs.length = i) ⟨[], [], _, _, _, _, rfl, g4 _, hh4, h4, .nil, (fun j t e => by simp at e), rfl⟩ (fun _ _ _ _ _ => trivial) ?_ ?_
  · rintro i _ σ _ H5 hi ⟨xs, cs, u5, u6, u7, u8, rfl, g5, hh5, h5, a5, ok5, lcs⟩ ⟨rfl, rfl⟩
    have lxs := a5.length
    walk_at "ws"
    refine ⟨hd, c, most + 1, rfl, hh5, by omega, by omega, fun sz_ H6 s0 s1 g6 hh6 => ?_⟩
    obtain ⟨z, rfl⟩ : ∃ z : Nat, sz_ = (z : Int) := ⟨sz_.toNat, by omega⟩
    have h6 := g6.keep l _ (fun q e => by cases e; exact nl_) h5
    have g56 := g5.trans g6
    have ro6 := g56.tups _ _ ro3
    have a6 := a5.g g6 OH.s
    walk_at "ws"
    refine i_BM h6 ?_
    walk_at "ws"
    refine i_rng1 (by omega) (by omega) ?_
    rw [Int.toNat_natCast]
    intro R hR
    have nR : R ≠ hd ∧ R ≠ c := hh6.ne hR
    have n6 : R ≠ l := fun e => by rw [e, h6] at hR; cases hR
    refine lc_it walk_range (fun j H' => G (some (hd, c)) H6 H' ∧ Hand H' hd c ∧ ∃ (ys : List V) (ts : List Tg), H' R = some (.lst ys) ∧ AbAll a.c_Program (hd, c) H' ys ts ∧ (∀ t ∈ ts, rowT (ownI os (i : Nat)) (z : Nat) t = true) ∧ ts.length = j) ⟨(G.refl).mut hR (fun q e => by cases e; exact hh6), ((G.refl).mut hR (fun q e => by cases e; exact hh6)).hand (hd, c) rfl hh6, [], [], upd_same, .nil, (fun _ h => nomatch h), rfl⟩ (fun _ _ _ _ => trivial) ?_ ?_
    · rintro j _ _ H7 hj ⟨g7, hh7, ys, ts, h7, a7, k7, l7⟩ ⟨rfl, rfl⟩
      have ly := a7.length
      walk_at "ws"
      refine ⟨rfl, ?_⟩
      walk_at "ws"
      refine ⟨hd, c, op, os, 0 + (i : Int), (z : Int), rfl, hh7, .inl (g7.tups _ _ ro6), by omega, by omega, by omega, by omega, fun v t H8 g8 hh8 ha hrow => ?_⟩
      rw [Int.zero_add] at hrow
      have h8 := g8.keep R _ (fun q e => by cases e; exact nR) h7
      have g78 := g7.trans g8
      have gput := g78.mut (u := .lst (ys ++ [v])) hR (fun q e => by cases e; exact hh6)
      have k8 : ∀ t' ∈ ts ++ [t], rowT (ownI os (i : Nat)) (z : Nat) t' = true := fun t' ht => by
        rcases List.mem_append.mp ht with e | e
        · exact k7 t' e
        · have e : t' = t := by simpa using e
          rw [e]; exact hrow
      refine ⟨ys, h8, Nat.lt_of_le_of_lt (by rw [ly, l7]; omega : ys.length ≤ 1000) (by decide), gput, gput.hand (hd, c) rfl hh6, ys ++ [v], ts ++ [t], upd_same, ?_, k8, by rw [List.length_append, List.length_singleton, l7]⟩
      refine AbAll.ts (ts_put h8) _ _ (pureTs_all.mpr fun t' ht => rowT_pure (k8 t' ht)) ((a7.g g8 OH.s).app (.cons ha .nil))
    rintro H7 ⟨g7, hh7, ys, ts, h7, a7, k7, l7⟩
    have hl7 := g7.keep l _ (fun q e => by cases e; exact nl_) h6
    have aa7 := a6.g g7 OH.s
    walk_at "ws"
    refine ⟨R, _, rfl, .inl ⟨SqL.of h7, fun t8 H8 ht8 g8 h8 => ?_⟩⟩
    have hl8 := (g8 none).all _ _ hl7
    walk_at "ws"
    refine r_app hl8 (by omega) ?_
    walk_at "ws"
    have g58 := (g56.trans g7).trans (g8 _)
    have gput := g58.mut (u := .lst (xs ++ [.ref t8])) hl (fun q e => by cases e; exact hh3)
    have ok8 : CodesOk os (cs ++ [.tup ts]) := ok5.app (by omega) (by rw [lcs, l7]; exact k7)
    refine ⟨xs ++ [.ref t8], cs ++ [.tup ts], _, _, _, _, rfl, gput, gput.hand (hd, c) rfl hh3, upd_same, ?_, ok8, by rw [List.length_append, List.length_singleton, lcs]⟩
    exact AbAll.ts (ts_put hl8) _ _ ok8.pure ((aa7.n (g8 none)).app (.cons (.tup (.inl h8) (a7.n (g8 none))) .nil))
  rintro σ H5 ⟨xs, cs, u5, u6, u7, u8, rfl, g5, hh5, h5, a5, ok5, lcs⟩
  walk_at "ws"
  refine ⟨l, _, rfl, .inl ⟨SqL.of h5, fun cp H6 hcp g6 h6 => ?_⟩⟩
  walk_at "ws"
  refine ⟨sz (by simp), fun q H7 hq g7 h7 => ?_⟩
  have g57 := (g6 none).trans (g7 none)
  refine k q op cp xs os cs H7 ((g03.trans g5).trans g57.up) (g57.up.hand (hd, c) rfl hh5) (.inl h7) (g57.tups _ _ (g5.tups _ _ ro3)) (.inl ((g7 none).all _ _ h6)) (a5.n g57) ⟨by omega, by omega, by omega, by omega, fun o ho => ?_, ok5⟩ (by omega)
  have := hos o ho
  omega

end
end Mine
/-! ## K12 -/


namespace Mine
section
variable {P : Program} {w : World} {K : PySem.W.Frag} {mg : Str → Option Value} {base : Heap} {a : Ads}

/-! ### _law_is_row -/
def lawL : List Str := ["set r n", "copy r r", "add r r r", "take r r r", "put o r", "look r c", "tell r", "rest", "same r r t", "less r r t", "go t", "call t", "back"]
def lawW : List (List Str) := tab_FORMS.map fun kv => kv.1 :: kv.2.cps.toList.map fun c => ⟨#[c]⟩
theorem split_lawL : (lawL.map fun t => PySem.Txt.split t " ") = lawW := by decide +kernel
theorem lawL_size : ∀ t ∈ lawL, t.length + 2 ≤ 100 := by decide +kernel
theorem split_at {i : Nat} {t : Str} (h : lawL[i]? = some t) : lawW[i]? = some (PySem.Txt.split t " ") := by rw [← split_lawL, List.getElem?_map, h]; rfl
theorem lookup_no {s : Str} : ∀ {l : List (Str × Str)}, (∀ (i : Nat) kv, l[i]? = some kv → ¬ kv.1 = s) → l.lookup s = none
  | [], _ => rfl
  | kv :: l, h => by
    have n : ¬ kv.1 = s := h 0 kv rfl
    have e : (s == kv.1) = false := by simpa using fun z => n z.symm
    rw [List.lookup_cons, e]
    exact lookup_no fun i kv hi => h (i + 1) kv hi
theorem lookup_at {s : Str} : ∀ {l : List (Str × Str)} {i : Nat} {kv : Str × Str}, l[i]? = some kv → kv.1 = s → (∀ (j : Nat) kv, j < i → l[j]? = some kv → ¬ kv.1 = s) → l.lookup s = some kv.2
  | [], _, _, h, _, _ => by simp at h
  | kv :: l, 0, _, h, e, _ => by
    cases Option.some.inj h
    have b : (s == kv.1) = true := by simpa using e.symm
    rw [List.lookup_cons, b]
  | kv :: l, i + 1, kv2, h, e, n => by
    have n0 : ¬ kv.1 = s := n 0 kv (by omega) rfl
    have b : (s == kv.1) = false := by simpa using fun z => n0 z.symm
    rw [List.lookup_cons, b]
    exact lookup_at (i := i) h e fun j kv hj q => n (j + 1) kv (by omega) q
theorem letters : ∀ kv ∈ tab_FORMS, ∀ c ∈ kv.2.cps.toList, c = 114 ∨ c = 110 ∨ c = 111 ∨ c = 99 ∨ c = 116 := by decide +kernel
theorem lawW_at {i : Nat} {kv : Str × Str} (h : tab_FORMS[i]? = some kv) : lawW[i]? = some (kv.1 :: kv.2.cps.toList.map fun c => ⟨#[c]⟩) := by unfold lawW; rw [List.getElem?_map, h]; rfl
theorem rowT_ne {own : List Bool} {rows : Int} {s : Str} {ts : List Tg} (h : tab_FORMS.lookup s = none) : rowT own rows (.tup (.str s :: ts)) = false := by
  show (match tab_FORMS.lookup s with | some f => _ | none => false) = false
  rw [h]
theorem rowT_eq {own : List Bool} {rows : Int} {s f : Str} {ts : List Tg} (h : tab_FORMS.lookup s = some f) : rowT own rows (.tup (.str s :: ts)) = (decide (ts.length = f.cps.toList.length) && (f.cps.toList.zip ts).all fun p => ftT own rows p.1 p.2) := by
  show (match tab_FORMS.lookup s with | some f => decide (ts.length = f.cps.toList.length) && (f.cps.toList.zip ts).all fun p => ftT own rows p.1 p.2 | none => false) = _
  rw [h]
theorem occ_r : Builtin.Str.occurrences "rnoct" ⟨#[114]⟩ 0 ("rnoct" : Str).length 1 = [0] := by decide +kernel
theorem occ_n : Builtin.Str.occurrences "rnoct" ⟨#[110]⟩ 0 ("rnoct" : Str).length 1 = [1] := by decide +kernel
theorem occ_o : Builtin.Str.occurrences "rnoct" ⟨#[111]⟩ 0 ("rnoct" : Str).length 1 = [2] := by decide +kernel
theorem occ_c : Builtin.Str.occurrences "rnoct" ⟨#[99]⟩ 0 ("rnoct" : Str).length 1 = [3] := by decide +kernel
theorem occ_t : Builtin.Str.occurrences "rnoct" ⟨#[116]⟩ 0 ("rnoct" : Str).length 1 = [4] := by decide +kernel
theorem w_m1 {r : V → List V → Hp → VK → Prop} {to te : TE} {σ : L2.St} {H : Hp} {Q : VK} (q : to σ H fun x H1 => (∃ a, x = .str a) ∧ te σ H1 fun y H2 => r x [y] H2 Q) : tM1 r to te σ H Q := q
/-- the law's own bounds of a part, by its letter -/
def loB (c : Nat) : Int := if c = 110 then -1000000 else 0
def hiB (n size : Int) (c : Nat) : Int := if c = 114 then 7 else if c = 110 then 1000000 else if c = 116 then size else n - 1
theorem btw_blw {b : Int} {t : Tg} : btw 0 (b - 1) t = blw b t := by
  cases t <;> first | rfl | (simp only [btw, blw]; congr 1; rw [decide_eq_decide]; omega)
/-- the law's look at a part is the program's -/
theorem part_law {os : List Int} {m size : Int} {c : Nat} {t : Tg} (hc : c = 114 ∨ c = 110 ∨ c = 111 ∨ c = 99 ∨ c = 116) :
    ftT (ownI os m) size c t = (btw (loB c) (hiB os.length size c) t && (!decide (c = 111) || match t with
      | .int i => (ownI os m).getD i.toNat false
      | _ => false)) := by
  have l : (ownI os m).length = os.length := by unfold ownI; rw [List.length_map]
  rcases hc with rfl | rfl | rfl | rfl | rfl
  · rw [ftT_r rfl]
    show blw 8 t = (btw 0 7 t && true)
    rw [Bool.and_true, show (7 : Int) = 8 - 1 from rfl, btw_blw]
  · rw [ftT_n (by decide) rfl]
    show _ = (btw (-1000000) 1000000 t && true)
    rw [Bool.and_true]
  · rw [ftT_o (by decide) (by decide) (by decide), l]
    show _ = (btw 0 ((os.length : Int) - 1) t && _)
    rw [btw_blw]
    rfl
  · rw [ftT_o (by decide) (by decide) (by decide), l]
    show _ = (btw 0 ((os.length : Int) - 1) t && true)
    rw [btw_blw, Bool.and_true]
    show (blw os.length t && (true || _)) = _
    rw [Bool.true_or, Bool.and_true]
  · rw [ftT_t (by decide) (by decide) rfl]
    show _ = (btw 0 size t && true)
    rw [Bool.and_true]
theorem all_zip_f {α β : Type} {P : α → β → Bool} {cs : List α} {ts : List β} {i : Nat} {c : α} {t : β} (h1 : cs[i]? = some c) (h2 : ts[i]? = some t) (h : P c t = false) : ((cs.zip ts).all fun p => P p.1 p.2) = false := by
  rw [Bool.eq_false_iff]
  intro z
  have := List.all_eq_true.mp z (c, t) (List.mem_of_getElem? (List.getElem?_zip_eq_some.mpr ⟨h1, h2⟩))
  simp [h] at this
theorem all_zip_t {α β : Type} {P : α → β → Bool} {cs : List α} {ts : List β} (h : ∀ (i : Nat) (c : α) (t : β), cs[i]? = some c → ts[i]? = some t → P c t = true) : ((cs.zip ts).all fun p => P p.1 p.2) = true := by
  rw [List.all_eq_true]
  rintro ⟨c, t⟩ m
  obtain ⟨i, hi⟩ := List.getElem?_of_mem m
  have := List.getElem?_zip_eq_some.mp hi
  exact h i c t this.1 this.2
theorem w_meet {b : Bool} {ta tb : TE} {σ : L2.St} {H : Hp} {QQ : VK} (v : V) (h1 : b = true → ∀ Q : VK, Q v H → ta σ H Q) (h2 : b = false → ∀ Q : VK, Q v H → tb σ H Q) (q : QQ v H) : if b = true then ta σ H QQ else tb σ H QQ := by
  cases b
  · rw [if_neg Bool.false_ne_true]; exact h2 rfl _ q
  · rw [if_pos rfl]; exact h1 rfl _ q
theorem pick5 {n size : Int} {c : Nat} (hc : c = 114 ∨ c = 110 ∨ c = 111 ∨ c = 99 ∨ c = 116) : ∃ i : Nat, Builtin.Str.occurrences "rnoct" ⟨#[c]⟩ 0 ("rnoct" : Str).length 1 = [i] ∧ atI [V.int 7, V.int (10 ^ (6 : Int).toNat), V.int (n - 1), V.int (n - 1), V.int size] (i : Int) = some (.int (hiB n size c)) := by
  rcases hc with rfl | rfl | rfl | rfl | rfl
  · exact ⟨0, occ_r, rfl⟩
  · exact ⟨1, occ_n, rfl⟩
  · exact ⟨2, occ_o, rfl⟩
  · exact ⟨3, occ_c, rfl⟩
  · exact ⟨4, occ_t, rfl⟩
def sp__law_is_row (K : PySem.W.Frag) (C : Addr) : Sp := fun vs H Q _ => ∃ (op : Addr) (hd : Addr × Addr) (os : List Int) (m size : Int) (v : V) (t : Tg), vs = [.ref op, .int m, .int size, v] ∧ SqT K H op (os.map V.int) ∧ Ab C hd H v t ∧ ∀ H', G none H H' → Q (.bl (rowT (ownI os m) size t)) H'
theorem ok__law_is_row (T : Txt w K mg a) : FnOk P w K mg base CX0 2 a.f__law_is_row a.d__law_is_row P__law_is_row (sp__law_is_row K a.c_Program) := by
  refine T.F__law_is_row.ok sc__law_is_row (fun vs H Q E h => by obtain ⟨op, hd, os, m, size, v, t, rfl, _⟩ := h; rfl) (fun cdv A outer s0 H vs Q E hr h => ?_)
  obtain ⟨op, hd, os, m, size, v, t, rfl, ho, ha, k⟩ := h
  have G__law_is_int : FnOk P w K mg base CX0 1 a.f__law_is_int a.d__law_is_int P__law_is_int (sp__law_is_int a.c_Program) := ok__law_is_int T
  refine ⟨_, (pss_cons (ps_set (i := 4) sc__law_is_row.nd rfl (Or.inl rfl) (pe_lstN (pa_cons pe_str (pa_cons pe_str (pa_cons pe_str (pa_cons pe_str (pa_cons pe_str (pa_cons pe_str (pa_cons pe_str (pa_cons pe_str (pa_cons pe_str pa_nil)))))))))))
  (pss_cons (ps_setLc (i := 4) (own := [("_law_form", 5)]) (g := (gName 5)) (tt := tYes)  rfl sc__law_is_row.nd rfl rfl (sw_true rfl rfl rfl (by decide +kernel)) (pi_list (pe_op op_catLN (pv 4) (pe_lstN (pa_cons pe_str (pa_cons pe_str (pa_cons pe_str (pa_cons pe_str pa_nil))))))) (blkOk_by (N := N__law_is_row) (sc := defScope s__law_is_row) (by decide +kernel)) (fun _ _ _ _ _ => (pg_name (i := 5) sc__law_is_row.nd rfl (by first | exact Or.inl rfl | exact Or.inr rfl))) (fun _ _ _ _ _ => pts_nil) (fun _ _ _ _ _ => (pe_split (pv 5) pe_str)))
  (pss_cons (ps_if (L2.PW.pt (pw_or (pt_not (pt_val (pe_callB call_isi (by rfl) T.n_isinstance (by decide +kernel) (pa_cons (pv 3) (pa_cons (pe_bltn (v := .ty "tuple") (u := .type "tuple") rfl T.n_tuple (by decide +kernel) rfl) pa_nil))))) (pw_or (pt_cmpR op_eq (pe_callB call_len_seq (by rfl) T.n_len (by decide +kernel) (pa_cons (pv 3) pa_nil)) pe_int (nomark _)) (pw_or1 (pt_not (pt_val (pe_callB call_isi (by rfl) T.n_isinstance (by decide +kernel) (pa_cons (pe_ix ix_tup (pv 3) pe_int (fun _ _ => rfl)) (pa_cons (pe_bltn (v := .ty "str") (u := .type "str") rfl T.n_str (by decide +kernel) rfl) pa_nil)))))))))
    (pss_one (ps_ret pe_bl))
    pss_nil)
  (pss_cons (ps_setLc (i := 5) (own := [("_law_one", 9)]) (g := (gName 9))  rfl sc__law_is_row.nd rfl rfl (sw_true rfl rfl rfl (by decide +kernel)) (pi_list (pv 4)) (blkOk_by (N := N__law_is_row) (sc := defScope s__law_is_row) (by decide +kernel)) (fun _ _ _ _ _ => (pg_name (i := 9) sc__law_is_row.nd rfl (by first | exact Or.inl rfl | exact Or.inr rfl))) (fun _ _ _ _ _ => (pts_one (pt_cmpR op_eq (pe_ix (k_ix_list K) (pv 9) pe_int (fun _ _ => rfl)) (pe_ix (k_ix_tup K) (pv 3) pe_int (fun _ _ => rfl)) (nomark _)))) (fun _ _ _ _ _ => (pv 9)))
  (pss_cons (ps_if (L2.PW.pt (pw_or (pt_cmpR op_eq (pe_callB call_len_seq (by rfl) T.n_len (by decide +kernel) (pa_cons (pv 5) pa_nil)) pe_int (nomark _)) (pw_or1 (pt_cmpR op_ne (pe_callB call_len_seq (by rfl) T.n_len (by decide +kernel) (pa_cons (pe_ix ix_list (pv 5) pe_int (fun _ _ => rfl)) pa_nil)) (pe_callB call_len_seq (by rfl) T.n_len (by decide +kernel) (pa_cons (pv 3) pa_nil)) (nomark _)))))
    (pss_one (ps_ret pe_bl))
    pss_nil)
  (pss_cons (ps_for PassesOwn.never rfl (pi_zipM (by rfl) T.n_zip (pa_cons (pe_slice sl_list (pe_ix ix_list (pv 5) pe_int (fun _ _ => rfl)) (po_some pe_int) po_none) (pa_cons (pe_slice sl_tupR (pv 3) (po_some pe_int) po_none) pa_nil))) (pg_tup rfl (pgs_cons (pg_name (i := 6) sc__law_is_row.nd rfl (Or.inl rfl)) (pgs_cons (pg_name (i := 7) sc__law_is_row.nd rfl (Or.inl rfl)) pgs_nil)))
    (pss_cons (ps_set (i := 8) sc__law_is_row.nd rfl (Or.inl rfl) (pe_ix ix_list (pe_lstN (pa_cons pe_int (pa_cons (pe_op op_pow pe_int pe_int) (pa_cons (pe_op op_sub (pe_callB call_len_seq (by rfl) T.n_len (by decide +kernel) (pa_cons (pv 0) pa_nil)) pe_int) (pa_cons (pe_op op_sub (pe_callB call_len_seq (by rfl) T.n_len (by decide +kernel) (pa_cons (pv 0) pa_nil)) pe_int) (pa_cons (pv 2) pa_nil)))))) (pe_m1 PySem.F.slot_str_index PySem.F.type_str_index mt_sindex pe_str (pv 6)) (fun _ _ => rfl)))
  (pss_cons (ps_if (pt_not (pt_val (pe_call (G__law_is_int) (hr.mono (by omega)) rfl T.m__law_is_int T.F__law_is_int.kp T.b__law_is_int .nil pass0 (pa_cons (pv 7) (pa_cons (pe_ifExp (pt_cmpR op_eq (pv 6) pe_str (nomark _)) (pe_un un_neg (pe_op op_pow pe_int pe_int)) pe_int) (pa_cons (pv 8) pa_nil))))))
    (pss_one (ps_ret pe_bl))
    pss_nil)
  (pss_one (ps_if (L2.PW.pt (pw_and (pt_cmpR op_eq (pv 6) pe_str (nomark _)) (pw_and1 (pt_cmpR op_ne (pe_ix ix_tup (pv 0) (pv 7) (fun _ _ => rfl)) (pv 1) (nomark _)))))
    (pss_one (ps_ret pe_bl))
    pss_nil)))))
  (pss_one (ps_ret pe_bl)))))))), ?_⟩
  walk_at "ws"
  refine ⟨sz (by simp), fun l1 H1 hl1 g1 h1 => ?_⟩
  walk_at "ws"
  refine ⟨sz (by simp), fun l2 H2 hl2 g2 h2 => ?_⟩
  refine ⟨l1, l2, _, _, rfl, rfl, (g2 none).all _ _ h1, h2, by simp, fun L H3 hL g3 h3 => ?_⟩
  have g03 := ((g1 none).trans (g2 none)).trans (g3 none)
  have h3 : H3 L = some (.lst (lawL.map V.str)) := h3
  clear h1 h2 hl1 hl2 g1 g2 g3
  refine i_list (SqL.of h3) ?_
  intro R hR
  have nRL : R ≠ L := fun e => by rw [e, h3] at hR; cases hR
  refine lc_it (walk_list (xs := lawL.map V.str)) (fun j H' => G none H3 H' ∧ ∃ bs : List Addr, H' R = some (.lst (bs.map V.ref)) ∧ bs.length = j ∧ ∀ (i : Nat) (b : Addr) (ws : List Str), bs[i]? = some b → lawW[i]? = some ws → b ≠ R ∧ H' b = some (.lst (ws.map V.str))) ⟨(G.refl).mut hR (fun _ e => nomatch e), [], upd_same, rfl, fun i b ws e => by simp at e⟩ (fun j H' _ h => SqL.of (h.1.all _ _ h3)) ?_ ?_
  · rintro j x _ H4 hj ⟨g4, bs, h4, lb, hb⟩ ⟨rfl, hx1⟩
    obtain ⟨tx, htx, rfl⟩ : ∃ tx, lawL[j]? = some tx ∧ V.str tx = x := by
      rw [List.getElem?_map] at hx1; exact Option.map_eq_some_iff.mp hx1
    walk_at "ws"
    refine ⟨rfl, ?_⟩
    refine w_yes ?_
    refine iteT ?_
    refine w_m1 ?_
    walk_at "ws"
    refine ⟨⟨_, rfl⟩, ?_⟩
    walk_at "ws"
    have lt := lawL_size tx (List.mem_of_getElem? htx)
    refine ⟨tx, " ", rfl, rfl, by decide +kernel, Nat.le_trans lt (by decide), fun p5 hp5 => ?_⟩
    have n5 : p5 ≠ R := fun e => by rw [e, h4] at hp5; cases hp5
    have g5 : G none H4 (upd H4 p5 (.lst ((PySem.Txt.split tx " ").map V.str))) := G.alloc hp5
    have h5 : upd H4 p5 (.lst ((PySem.Txt.split tx " ").map V.str)) p5 = some (.lst ((PySem.Txt.split tx " ").map V.str)) := upd_same
    generalize upd H4 p5 (.lst ((PySem.Txt.split tx " ").map V.str)) = H5 at g5 h5 ⊢
    refine ⟨_, g5.all _ _ h4, Nat.lt_of_le_of_lt (by rw [List.length_map, lb]; have : lawL.length = 13 := rfl; rw [List.length_map] at hj; omega : (bs.map V.ref).length ≤ 1000) (by decide), (g4.trans g5).mut hR (fun _ e => nomatch e), bs ++ [p5], by rw [upd_same, List.map_append]; rfl, by rw [List.length_append, List.length_singleton, lb], fun i b ws e1 e2 => ?_⟩
    by_cases c : i < bs.length
    · rw [List.getElem?_append_left c] at e1
      have q := hb i b ws e1 e2
      exact ⟨q.1, by rw [upd_ne q.1]; exact g5.all _ _ q.2⟩
    · rw [List.getElem?_append_right (by omega)] at e1
      cases z : i - bs.length with
      | succ n => rw [z] at e1; simp at e1
      | zero =>
        rw [z] at e1
        simp at e1
        subst e1
        have ei : i = j := by omega
        rw [ei, split_at htx] at e2
        cases e2
        exact ⟨n5, by rw [upd_ne n5]; exact h5⟩
  rintro H4 ⟨g4, bs, h4, lb, hb⟩
  have l13 : bs.length = 13 := lb
  have g04 := g03.trans g4
  have ha4 := ha.n g04
  have ho4 := sqT_t g04.tups ho
  clear h3 hR nRL g03 g4 ha ho lb
  walk_at "ws"
  refine ab_isi T.ik ha4 (.inr (.inr (.inr rfl))) ?_
  refine ⟨_, rfl, ?_⟩
  refine w_ite (fun e1 => ?_) (fun e1 => ?_)
  · have z : rowT (ownI os m) size t = false := by
      cases t <;> first | rfl | exact Bool.noConfusion (show (!true) = true from e1)
    rw [z] at k
    walk_at "ws"
    exact k _ g04
  have e1 : isT "tuple" t = true := by simpa using e1
  obtain ⟨p, xs, ts, rfl, rfl, r, al⟩ := tup_of ha4 e1
  refine w_or ?_
  refine w_test ?_
  refine w_op ?_
  refine w_CB ?_
  refine w_cons ?_
  refine w_var rfl ?_
  refine w_nil ?_
  refine ⟨p, xs, rfl, .inr (.inl r), ?_⟩
  refine w_c ?_
  refine r_eqI ?_
  refine ⟨_, rfl, ?_⟩
  refine w_ite (fun e2 => ?_) (fun e2 => ?_)
  · have e2 : xs = [] := by
      have := of_decide_eq_true e2
      cases xs with
      | nil => rfl
      | cons x xs => simp at this; omega
    subst e2
    cases al
    walk_at "ws"
    exact k _ g04
  obtain ⟨x, xs', rfl⟩ := List.exists_cons_of_ne_nil (show xs ≠ [] from fun e => by rw [e] at e2; exact Bool.noConfusion (show true = false from e2))
  obtain ⟨t0, ts0, rfl⟩ : ∃ t0 ts0, ts = t0 :: ts0 := by
    cases al
    exact ⟨_, _, rfl⟩
  obtain ⟨a0, al0⟩ : Ab a.c_Program hd H4 x t0 ∧ AbAll a.c_Program hd H4 xs' ts0 := by
    cases al
    exact ⟨by assumption, by assumption⟩
  have l1 := al0.length
  walk_at "ws"
  refine r_ixT (.inl r) (i := 0) (atI_nat (j := 0) rfl) ?_
  walk_at "ws"
  refine ab_isi T.ik a0 (.inr (.inr (.inl rfl))) ?_
  refine ⟨_, rfl, ?_⟩
  refine w_ite (fun e3 => ?_) (fun e3 => ?_)
  · have z : rowT (ownI os m) size (.tup (t0 :: ts0)) = false := by
      cases t0 <;> first | rfl | exact Bool.noConfusion (show (!true) = true from e3)
    rw [z] at k
    walk_at "ws"
    exact k _ g04
  have e3 : isT "str" t0 = true := by simpa using e3
  obtain ⟨z, rfl, rfl⟩ : ∃ z, t0 = .str z ∧ x = .str z := by
    cases a0 <;> first | exact ⟨_, rfl, rfl⟩ | exact Bool.noConfusion (show false = true from e3)
  walk_at "ws"
  refine i_list (SqL.of h4) ?_
  intro S hS
  have lW : lawW.length = 13 := rfl
  have wsat : ∀ {i : Nat} {b : Addr}, bs[i]? = some b → ∃ kv, tab_FORMS[i]? = some kv ∧ H4 b = some (.lst ((kv.1 :: kv.2.cps.toList.map fun c => ⟨#[c]⟩).map V.str)) := fun {i b} e => by
    have hi : i < 13 := by
      have := (List.getElem?_eq_some_iff.mp e).1
      omega
    have l0 : tab_FORMS.length = 13 := rfl
    have e2 : tab_FORMS[i]? = some tab_FORMS[i] := List.getElem?_eq_getElem (by omega)
    exact ⟨_, e2, (hb i b _ e (lawW_at e2)).2⟩
  refine lc_it (walk_list (xs := bs.map V.ref)) (fun j H' => G none H4 H' ∧ ∃ fs : List V, H' S = some (.lst fs) ∧ fs.length ≤ j ∧
      ((fs = [] ∧ ∀ (i : Nat) kv, i < j → tab_FORMS[i]? = some kv → ¬ kv.1 = z) ∨ ∃ (i : Nat) (b : Addr) (kv : Str × Str) (rest : List V), bs[i]? = some b ∧ tab_FORMS[i]? = some kv ∧ kv.1 = z ∧ fs = .ref b :: rest ∧ ∀ (i' : Nat) kv, i' < i → tab_FORMS[i']? = some kv → ¬ kv.1 = z))
    ⟨(G.refl).mut hS (fun _ e => nomatch e), [], upd_same, Nat.le_refl _, .inl ⟨rfl, fun i kv h => absurd h (Nat.not_lt_zero _)⟩⟩ (fun j H' _ h => SqL.of (h.1.all _ _ h4)) ?_ ?_
  · rintro j x _ H5 hj ⟨g5, fs, h5, lf, hf⟩ ⟨rfl, hx1⟩
    obtain ⟨b, hbj, rfl⟩ : ∃ b, bs[j]? = some b ∧ V.ref b = x := by
      rw [List.getElem?_map] at hx1; exact Option.map_eq_some_iff.mp hx1
    obtain ⟨kv, hkv, hB⟩ := wsat hbj
    have hj13 : j < 13 := by rw [List.length_map, l13] at hj; exact hj
    walk_at "ws"
    refine ⟨rfl, ?_⟩
    walk_at "ws"
    refine r_ixL (SqL.of (g5.all _ _ hB)) (v := .str kv.1) (atI_nat (j := 0) rfl) ?_
    walk_at "ws"
    refine r_ixT (.inl (g5.tups _ _ r)) (i := 0) (v := .str z) (atI_nat (j := 0) rfl) ?_
    refine ⟨rfl, ?_⟩
    rw [show decide (V.str kv.1 = V.str z) = decide (kv.1 = z) by rw [decide_eq_decide]; exact ⟨fun e => by injection e, fun e => by rw [e]⟩]
    refine ⟨_, rfl, ?_⟩
    refine w_ite (fun e => ?_) (fun e => ?_)
    · have e := of_decide_eq_true e
      walk_at "ws"
      refine ⟨fs, h5, Nat.lt_of_le_of_lt (by omega : fs.length ≤ 100) (by decide), g5.mut hS (fun _ e => nomatch e), fs ++ [.ref b], upd_same, by rw [List.length_append, List.length_singleton]; omega, .inr ?_⟩
      rcases hf with ⟨rfl, hn⟩ | ⟨i, b0, kv0, rest, q1, q2, q3, rfl, q5⟩
      · exact ⟨j, b, kv, [], hbj, hkv, e, rfl, fun i' kv' h' => hn i' kv' h'⟩
      · exact ⟨i, b0, kv0, rest ++ [.ref b], q1, q2, q3, rfl, q5⟩
    · have e := of_decide_eq_false e
      refine ⟨g5, fs, h5, by omega, ?_⟩
      rcases hf with ⟨rfl, hn⟩ | q
      · refine .inl ⟨rfl, fun i kv' h' hk => ?_⟩
        rcases Nat.lt_succ_iff_lt_or_eq.mp h' with h' | h'
        · exact hn i kv' h' hk
        · rw [h', hkv] at hk
          cases hk
          exact e
      · exact .inr q
  rintro H5 ⟨g5, fs, h5, lf, hf⟩
  have g05 := g04.trans g5
  have r5 := g5.tups _ _ r
  walk_at "ws"
  refine ⟨S, fs, rfl, .inl (SqL.of h5), ?_⟩
  refine w_c ?_
  refine r_eqI ?_
  refine ⟨_, rfl, ?_⟩
  refine w_ite (fun e4 => ?_) (fun e4 => ?_)
  · have e4 : fs = [] := by
      have := of_decide_eq_true e4
      cases fs with
      | nil => rfl
      | cons x xs => simp at this; omega
    rcases hf with ⟨_, hn⟩ | ⟨i, b0, kv0, rest, q1, q2, q3, q4, q5⟩
    · have l13' : (bs.map V.ref).length = 13 := by rw [List.length_map, l13]
      have q : tab_FORMS.lookup z = none := lookup_no fun i kv hi => hn i kv (by rw [l13']; exact (List.getElem?_eq_some_iff.mp hi).1) hi
      rw [rowT_ne q] at k
      walk_at "ws"
      exact k _ g05
    · rw [e4] at q4; cases q4
  obtain ⟨i, b, kv, rest, q1, q2, q3, rfl, q5⟩ : ∃ (i : Nat) (b : Addr) (kv : Str × Str) (rest : List V), bs[i]? = some b ∧ tab_FORMS[i]? = some kv ∧ kv.1 = z ∧ fs = .ref b :: rest ∧ ∀ (i' : Nat) kv, i' < i → tab_FORMS[i']? = some kv → ¬ kv.1 = z := by
    rcases hf with ⟨rfl, _⟩ | q
    · exact Bool.noConfusion (show true = false from e4)
    · exact q
  have lk : tab_FORMS.lookup z = some kv.2 := lookup_at q2 q3 q5
  have kvm := List.mem_of_getElem? q2
  have let_ := letters kv kvm
  obtain ⟨f, ef⟩ : ∃ f, f = kv.2 := ⟨_, rfl⟩
  have f3 := form_le lk
  obtain ⟨cs, ecs⟩ : ∃ cs, cs = kv.2.cps.toList := ⟨_, rfl⟩
  rw [rowT_eq lk, ← ecs] at k
  have hB : H5 b = some (.lst ((kv.1 :: cs.map fun c => (⟨#[c]⟩ : Str)).map V.str)) := by
    obtain ⟨kv2, e2, e3⟩ := wsat q1
    rw [q2] at e2
    cases e2
    rw [ecs]
    exact g5.all _ _ e3
  have lcs : cs.length ≤ 3 := by rw [ecs]; simpa using f3
  rw [← ecs] at let_
  clear f3 wsat hb h4 hS hf q1 q2 q5 lf l13 lk kvm ef ecs
  walk_at "ws"
  refine r_ixL (SqL.of h5) (v := .ref b) (atI_nat (j := 0) rfl) ?_
  walk_at "ws"
  refine ⟨b, _, rfl, .inl (SqL.of hB), ?_⟩
  walk_at "ws"
  refine ⟨p, _, rfl, .inr (.inl r5), ?_⟩
  walk_at "ws"
  refine w_ite (fun e5 => ?_) (fun e5 => ?_)
  · have n5 : decide (ts0.length = cs.length) = false := by
      have : ¬ (cs.length : Int) = (ts0.length : Int) := by simpa [l1] using e5
      exact decide_eq_false (by omega)
    rw [n5, Bool.false_and] at k
    walk_at "ws"
    exact k _ g05
  have e6 : ts0.length = cs.length := by
    have : (cs.length : Int) = (ts0.length : Int) := by simpa [l1] using e5
    omega
  rw [decide_eq_true e6, Bool.true_and] at k
  walk_at "ws"
  unfold iZipM
  walk_at "ws"
  refine r_ixL (SqL.of h5) (v := .ref b) (atI_nat (j := 0) rfl) ?_
  walk_at "ws"
  refine ⟨b, _, rfl, SqL.of hB, fun p1 hp1 => ?_⟩
  have g6 : G none H5 (upd H5 p1 (.lst (cutV ((kv.1 :: cs.map fun c => (⟨#[c]⟩ : Str)).map V.str) (some 1) none))) := G.alloc hp1
  have h6 : upd H5 p1 (.lst (cutV ((kv.1 :: cs.map fun c => (⟨#[c]⟩ : Str)).map V.str) (some 1) none)) p1 = some (.lst ((cs.map fun c => (⟨#[c]⟩ : Str)).map V.str)) := by rw [upd_same, List.map_cons, cut1]
  generalize upd H5 p1 (.lst (cutV ((kv.1 :: cs.map fun c => (⟨#[c]⟩ : Str)).map V.str) (some 1) none)) = H6 at g6 h6 ⊢
  walk_at "ws"
  refine ⟨p, _, rfl, g6.tups _ _ r5, fun p2 H7 gg7 r7 => ?_⟩
  have g7 : G none H6 H7 := gg7 none
  rw [cut1] at r7
  have g57 := g6.trans g7
  have g07 := g05.trans g57
  have ho7 := sqT_t (g5.trans g57).tups ho4
  have al7 := (al0.n g5).n g57
  have h7 := g7.all _ _ h6
  refine ⟨.lst p1, .tup p2, _, xs', rfl, SqL.of h7, .inl r7, ?_⟩
  have lxs : xs'.length = cs.length := by omega
  refine for_it (walk_zipM (xs := (cs.map fun c => (⟨#[c]⟩ : Str)).map V.str) (ys := xs') (n := xs'.length) (by rw [List.length_map, List.length_map]; omega) (Nat.le_refl _) (.inr rfl)) (fun i σ H8 => G none H7 H8 ∧ (∀ (j : Nat) (c : Nat) (t : Tg), j < i → cs[j]? = some c → ts0[j]? = some t → ftT (ownI os m) size c t = true) ∧ ∃ u6 u7 u8 u9, σ = [some (.ref op), some (.int m), some (.int size), some (.ref p), some (.ref R), some (.ref S), u6, u7, u8, u9]) ⟨G.refl, (fun _ _ _ h => absurd h (Nat.not_lt_zero _)), _, _, _, _, rfl⟩ (fun i σ H8 _ h => ⟨SqL.of (h.1.all _ _ h7), .inl (h.1.tups _ _ r7)⟩) ?_ ?_
  · rintro i x σ H8 H9 hi ⟨g8, hj, u6, u7, u8, u9, rfl⟩ ⟨T_, w1, w2, rfl, hT, rfl, hx1, hx2⟩
    obtain ⟨c, hc, rfl⟩ : ∃ c, cs[i]? = some c ∧ w1 = .str ⟨#[c]⟩ := by
      have hx1 : ((cs.map fun c => (⟨#[c]⟩ : Str)).map V.str)[i]? = some w1 := hx1
      rw [List.getElem?_map, List.getElem?_map] at hx1
      obtain ⟨c, e, e2⟩ := Option.map_eq_some_iff.mp hx1
      obtain ⟨c2, e3, e4⟩ := Option.map_eq_some_iff.mp e
      exact ⟨c2, e3, by rw [← e2, ← e4]⟩
    obtain ⟨tt, ht, at_⟩ := al7.get hx2
    have g9 : G none H8 (upd H8 T_ (.tup [.str ⟨#[c]⟩, w2])) := G.alloc hT
    have g89 := g8.trans g9
    refine ⟨T_, _, rfl, SqT.of upd_same, rfl, ?_⟩
    refine ⟨_, _, rfl, ?_⟩
    walk_at "ws"
    refine ⟨_, _, rfl, ?_⟩
    walk_at "ws"
    refine ⟨rfl, ?_⟩
    generalize upd H8 T_ (.tup [.str ⟨#[c]⟩, w2]) = H9 at g9 g89 ⊢
    have at9 := at_.n g89
    have pl := part_law (os := os) (m := m) (size := size) (t := tt) (let_ c (List.mem_of_getElem? hc))
    have bad : ftT (ownI os m) size c tt = false → Q (.bl false) H9 := fun e => by
      rw [all_zip_f (P := ftT (ownI os m) size) hc ht e] at k
      exact k _ (g07.trans g89)
    walk_at "ws"
    refine r_I ⟨by decide, by decide, by decide⟩ ?_
    walk_at "ws"
    refine ⟨op, _, rfl, .inr (sqT_t g89.tups ho7), ?_⟩
    rw [List.length_map]
    walk_at "ws"
    refine ⟨op, _, rfl, .inr (sqT_t g89.tups ho7), ?_⟩
    rw [List.length_map]
    walk_at "ws"
    refine ⟨sz (by simp), fun p10 H10 hp10 g10 h10 => ?_⟩
    obtain ⟨ix, oc, ea⟩ := pick5 (n := os.length) (size := size) (let_ c (List.mem_of_getElem? hc))
    refine w_m1 ?_
    walk_at "ws"
    refine ⟨⟨_, rfl⟩, ?_⟩
    walk_at "ws"
    refine ⟨_, _, _, _, rfl, rfl, oc, ?_⟩
    refine r_ixL (SqL.of h10) ea ?_
    have at10 := at9.n (g10 none)
    have ho10 := sqT_t (g89.trans (g10 none)).tups ho7
    walk_at "ws"
    refine r_sign (d := 110) (by decide +kernel) ⟨_, rfl, ?_⟩
    refine w_meet (.int (loB c)) (fun e Q2 q2 => ?_) (fun e Q2 q2 => ?_) ?_
    · walk_at "ws"
      refine r_I ⟨by decide, by decide, by decide⟩ ?_
      have e : c = 110 := of_decide_eq_true e
      rw [show loB c = -1000000 by unfold loB; rw [if_pos e]] at q2
      walk_at "ws"
      exact q2
    · have e : ¬ c = 110 := of_decide_eq_false e
      rw [show loB c = 0 by unfold loB; rw [if_neg e]] at q2
      exact q2
    walk_at "ws"
    refine ⟨loB c, hiB os.length size c, hd, w2, tt, rfl, at10, ?_⟩
    walk_at "ws"
    refine w_ite (fun e => ?_) (fun e => ?_)
    · have e : btw (loB c) (hiB os.length size c) tt = false := by simpa using e
      rw [e, Bool.false_and] at pl
      walk_at "ws"
      rw [all_zip_f (P := ftT (ownI os m) size) hc ht pl] at k
      exact k _ ((g07.trans g89).trans (g10 none))
    have e : btw (loB c) (hiB os.length size c) tt = true := by simpa using e
    rw [e, Bool.true_and] at pl
    obtain ⟨iv, rfl⟩ : ∃ iv, tt = .int iv := by
      cases tt with
      | int i => exact ⟨i, rfl⟩
      | tup _ => exact Bool.noConfusion (show false = true from e)
      | non => exact Bool.noConfusion (show false = true from e)
      | bl _ => exact Bool.noConfusion (show false = true from e)
      | str _ => exact Bool.noConfusion (show false = true from e)
      | oth => exact Bool.noConfusion (show false = true from e)
    have ew : w2 = .int iv := by cases at_; rfl
    subst ew
    have good : ftT (ownI os m) size c (.int iv) = true → ∀ (j : Nat) (c' : Nat) (t' : Tg), j < i + 1 → cs[j]? = some c' → ts0[j]? = some t' → ftT (ownI os m) size c' t' = true := fun q j c' t' hj' e1 e2 => by
      rcases Nat.lt_succ_iff_lt_or_eq.mp hj' with h | h
      · exact hj j c' t' h e1 e2
      · rw [h] at e1 e2
        rw [hc] at e1
        rw [ht] at e2
        cases e1
        cases e2
        exact q
    walk_at "ws"
    refine r_sign (d := 111) (by decide +kernel) ⟨_, rfl, ?_⟩
    refine w_ite (fun e2 => ?_) (fun e2 => ?_)
    · have e2 : c = 111 := of_decide_eq_true e2
      subst e2
      have rg : 0 ≤ iv ∧ iv ≤ (os.length : Int) - 1 := by
        have e : (decide ((0 : Int) ≤ iv) && decide (iv ≤ (os.length : Int) - 1)) = true := e
        rw [Bool.and_eq_true, decide_eq_true_eq, decide_eq_true_eq] at e
        exact e
      have pl : ftT (ownI os m) size 111 (.int iv) = (ownI os m).getD iv.toNat false := pl
      have li : iv.toNat < os.length := by omega
      have eo : (ownI os m).getD iv.toNat false = decide (os[iv.toNat] = m) := by
        unfold ownI
        rw [List.getD_eq_getElem?_getD, List.getElem?_map, List.getElem?_eq_getElem li]
        rfl
      walk_at "ws"
      refine r_ixT ho10 (v := .int os[iv.toNat]) (at_of (j := iv.toNat) (by omega) (by rw [List.getElem?_map, List.getElem?_eq_getElem li]; rfl)) ?_
      walk_at "ws"
      refine w_ite (fun e3 => ?_) (fun e3 => ?_)
      · have e3 : ¬ os[iv.toNat] = m := by simpa using e3
        rw [eo, decide_eq_false e3] at pl
        walk_at "ws"
        rw [all_zip_f (P := ftT (ownI os m) size) hc ht pl] at k
        exact k _ ((g07.trans g89).trans (g10 none))
      · have e3 : os[iv.toNat] = m := by simpa using e3
        rw [eo, decide_eq_true e3] at pl
        walk_at "ws"
        exact ⟨g89.trans (g10 none), good pl, _, _, _, _, rfl⟩
    · rw [e2] at pl
      walk_at "ws"
      exact ⟨g89.trans (g10 none), good pl, _, _, _, _, rfl⟩
  · rintro σ H8 ⟨g8, hj, u6, u7, u8, u9, rfl⟩
    walk_at "ws"
    rw [all_zip_t (P := ftT (ownI os m) size) fun i c t e1 e2 => hj i c t (by have := (List.getElem?_eq_some_iff.mp e1).1; omega) e1 e2] at k
    exact k _ (g07.trans g8)

end
end Mine
/-! ## K13 -/


namespace Mine
section
variable {P : Program} {w : World} {K : PySem.W.Frag} {mg : Str → Option Value} {base : Heap} {a : Ads}

/-! ### _law_due -/
def vD : V → PyData
  | .str s => .str s
  | .int i => .int i
  | _ => .none
def dueD : Option (V × Int) → PyData
  | none => .none
  | some e => .tuple [vD e.1, .int e.2]
theorem dp_sp {H : Hp} {q : Addr} {s : Str} {i : Int} (h : H q = some (.tup [.str s, .int i])) : Dp K H (.ref q) (dueD (some (.str s, i))) := .tup (SqT.of h) (.cons (.str _) (.cons (.int _) .nil))
theorem dp_ip {H : Hp} {q : Addr} {m i : Int} (h : H q = some (.tup [.int m, .int i])) : Dp K H (.ref q) (dueD (some (.int m, i))) := .tup (SqT.of h) (.cons (.int _) (.cons (.int _) .nil))
theorem ints_ex {b : Int} : ∀ {ts : List Tg}, (∀ t ∈ ts, blw b t = true) → ∃ ns : List Int, ts = ns.map Tg.int
  | [], _ => ⟨[], rfl⟩
  | t :: ts, h => by
    obtain ⟨i, rfl⟩ := blw_int (h t List.mem_cons_self)
    obtain ⟨ns, rfl⟩ := ints_ex fun u hu => h u (List.mem_cons_of_mem _ hu)
    exact ⟨i :: ns, rfl⟩
def sp__law_due (K : PySem.W.Frag) (C : Addr) : Sp := fun vs H Q _ => ∃ (hd : Addr × Addr) (ov cv : V) (to tc : Tg), vs = [ov, cv] ∧ Ab C hd H ov to ∧ Ab C hd H cv tc ∧ ∀ v H', G none H H' → Dp K H' v (dueD (due to tc)) → Q v H'
theorem ok__law_due (T : Txt w K mg a) : FnOk P w K mg base CX0 3 a.f__law_due a.d__law_due P__law_due (sp__law_due K a.c_Program) := by
  refine T.F__law_due.ok sc__law_due (fun vs H Q E h => by obtain ⟨hd, ov, cv, to, tc, rfl, _⟩ := h; rfl) (fun cdv A outer s H vs Q E hr h => ?_)
  obtain ⟨hd, ov, cv, to, tc, rfl, ho, hc, k⟩ := h
  have G__law_is_int : FnOk P w K mg base CX0 1 a.f__law_is_int a.d__law_is_int P__law_is_int (sp__law_is_int a.c_Program) := ok__law_is_int T
  have G__law_is_row : FnOk P w K mg base CX0 2 a.f__law_is_row a.d__law_is_row P__law_is_row (sp__law_is_row K a.c_Program) := ok__law_is_row T
  refine ⟨_, (pss_cons (ps_if (L2.PW.pt (pw_or (pt_not (pt_val (pe_callB call_isi (by rfl) T.n_isinstance (by decide +kernel) (pa_cons (pv 1) (pa_cons (pe_bltn (v := .ty "tuple") (u := .type "tuple") rfl T.n_tuple (by decide +kernel) rfl) pa_nil))))) (pw_or1 (pt_not (pt_chain op_le op_le pe_int (pe_callB call_len_seq (by rfl) T.n_len (by decide +kernel) (pa_cons (pv 1) pa_nil)) pe_int)))))
    (pss_one (ps_ret (pe_tupN (pa_cons pe_str (pa_cons (pe_un un_neg pe_int) pa_nil)))))
    pss_nil)
  (pss_cons (ps_if (L2.PW.pt (pw_or (pt_not (pt_val (pe_callB call_isi (by rfl) T.n_isinstance (by decide +kernel) (pa_cons (pv 0) (pa_cons (pe_bltn (v := .ty "tuple") (u := .type "tuple") rfl T.n_tuple (by decide +kernel) rfl) pa_nil))))) (pw_or1 (pt_not (pt_chain op_le op_le pe_int (pe_callB call_len_seq (by rfl) T.n_len (by decide +kernel) (pa_cons (pv 0) pa_nil)) pe_int)))))
    (pss_one (ps_ret (pe_tupN (pa_cons pe_str (pa_cons (pe_un un_neg pe_int) pa_nil)))))
    pss_nil)
  (pss_cons (ps_for PassesOwn.never rfl (pi_range1 rfl T.n_range (pa_cons (pe_callB call_len_seq (by rfl) T.n_len (by decide +kernel) (pa_cons (pv 0) pa_nil)) pa_nil)) (pg_name (i := 2) sc__law_due.nd rfl (Or.inl rfl))
    (pss_one (ps_if (pt_not (pt_val (pe_call (G__law_is_int) (hr.mono (by omega)) rfl T.m__law_is_int T.F__law_is_int.kp T.b__law_is_int .nil pass0 (pa_cons (pe_ix ix_tup (pv 0) (pv 2) (fun _ _ => rfl)) (pa_cons pe_int (pa_cons (pe_op op_sub (pe_callB call_len_seq (by rfl) T.n_len (by decide +kernel) (pa_cons (pv 1) pa_nil)) pe_int) pa_nil))))))
    (pss_one (ps_ret (pe_tupN (pa_cons pe_str (pa_cons (pv 2) pa_nil)))))
    pss_nil)))
  (pss_cons (ps_for PassesOwn.never rfl (pi_range1 rfl T.n_range (pa_cons (pe_callB call_len_seq (by rfl) T.n_len (by decide +kernel) (pa_cons (pv 1) pa_nil)) pa_nil)) (pg_name (i := 3) sc__law_due.nd rfl (Or.inl rfl))
    (pss_one (ps_if (L2.PW.pt (pw_or (pt_not (pt_val (pe_callB call_isi (by rfl) T.n_isinstance (by decide +kernel) (pa_cons (pe_ix ix_tup (pv 1) (pv 3) (fun _ _ => rfl)) (pa_cons (pe_bltn (v := .ty "tuple") (u := .type "tuple") rfl T.n_tuple (by decide +kernel) rfl) pa_nil))))) (pw_or1 (pt_cmpR op_gt (pe_callB call_len_seq (by rfl) T.n_len (by decide +kernel) (pa_cons (pe_ix ix_tup (pv 1) (pv 3) (fun _ _ => rfl)) pa_nil)) pe_int (nomark _)))))
    (pss_one (ps_ret (pe_tupN (pa_cons pe_str (pa_cons (pv 3) pa_nil)))))
    pss_nil)))
  (pss_cons (ps_for PassesOwn.never rfl (pi_range1 rfl T.n_range (pa_cons (pe_callB call_len_seq (by rfl) T.n_len (by decide +kernel) (pa_cons (pv 1) pa_nil)) pa_nil)) (pg_name (i := 3) sc__law_due.nd rfl (Or.inl rfl))
    (pss_one (ps_for PassesOwn.never rfl (pi_range1 rfl T.n_range (pa_cons (pe_callB call_len_seq (by rfl) T.n_len (by decide +kernel) (pa_cons (pe_ix ix_tup (pv 1) (pv 3) (fun _ _ => rfl)) pa_nil)) pa_nil)) (pg_name (i := 4) sc__law_due.nd rfl (Or.inl rfl))
    (pss_one (ps_if (pt_not (pt_val (pe_call (G__law_is_row) (hr.mono (by omega)) rfl T.m__law_is_row T.F__law_is_row.kp T.b__law_is_row .nil pass0 (pa_cons (pv 0) (pa_cons (pv 3) (pa_cons (pe_callB call_len_seq (by rfl) T.n_len (by decide +kernel) (pa_cons (pe_ix ix_tup (pv 1) (pv 3) (fun _ _ => rfl)) pa_nil)) (pa_cons (pe_ix ix_tup (pe_ix ix_tup (pv 1) (pv 3) (fun _ _ => rfl)) (pv 4) (fun _ _ => rfl)) pa_nil)))))))
    (pss_one (ps_ret (pe_tupN (pa_cons (pv 3) (pa_cons (pv 4) pa_nil)))))
    pss_nil)))))
  (pss_one (ps_ret pe_non))))))), ?_⟩
  walk_at "ws"
  refine ab_isi T.ik hc (.inr (.inr (.inr rfl))) ?_
  refine ⟨_, rfl, ?_⟩
  have bad1 : tsz 1 7 tc = false → ∀ q H1, G none H H1 → H1 q = some (.tup [.str "codes", .int (-1)]) → Q (.ref q) H1 := fun e q H1 g1 h1 => k _ _ g1 (by rw [due_1 e]; exact dp_sp h1)
  refine w_ite (fun e1 => ?_) (fun e1 => ?_)
  · have e : tsz 1 7 tc = false := tsz_f (by simpa using e1)
    walk_at "ws"
    refine ⟨sz (by simp), fun q H2 hq g2 h2 => ?_⟩
    exact bad1 e q H2 (g2 none) h2
  obtain ⟨cp, cxs, cs, rfl, rfl, rc, ac⟩ := tup_of hc (by simpa using e1)
  have lc := ac.length
  walk_at "ws"
  refine ⟨cp, cxs, rfl, .inr (.inl rc), ?_⟩
  rw [lc]
  walk_at "ws"
  refine w_ite (fun e2 => ?_) (fun e2 => ?_)
  rotate_left
  · have e : tsz 1 7 (.tup cs) = false := by
      show (decide (1 ≤ (cs.length : Int)) && decide ((cs.length : Int) ≤ 7)) = false
      rw [e2]; rfl
    walk_at "ws"
    refine ⟨sz (by simp), fun q H2 hq g2 h2 => ?_⟩
    exact bad1 e q H2 (g2 none) h2
  walk_at "ws"
  refine w_ite (fun e3 => ?_) (fun e3 => ?_)
  · have e : tsz 1 7 (.tup cs) = false := by
      show (decide (1 ≤ (cs.length : Int)) && decide ((cs.length : Int) ≤ 7)) = false
      rw [e2, show decide ((cs.length : Int) ≤ 7) = false by simpa using e3]; rfl
    walk_at "ws"
    refine ⟨sz (by simp), fun q H2 hq g2 h2 => ?_⟩
    exact bad1 e q H2 (g2 none) h2
  have c1 : (1 : Int) ≤ cs.length := of_decide_eq_true e2
  have c7 : (cs.length : Int) ≤ 7 := of_decide_eq_true (by simpa using e3)
  have t1 : tsz 1 7 (.tup cs) = true := tsz_len c1 c7
  clear e1 e2 e3 bad1
  walk_at "ws"
  refine ab_isi T.ik ho (.inr (.inr (.inr rfl))) ?_
  refine ⟨_, rfl, ?_⟩
  have bad2 : tsz 1 8 to = false → ∀ q H1, G none H H1 → H1 q = some (.tup [.str "owners", .int (-1)]) → Q (.ref q) H1 := fun e q H1 g1 h1 => k _ _ g1 (by rw [due_2 t1 e]; exact dp_sp h1)
  refine w_ite (fun e1 => ?_) (fun e1 => ?_)
  · have e : tsz 1 8 to = false := tsz_f (by simpa using e1)
    walk_at "ws"
    refine ⟨sz (by simp), fun q H2 hq g2 h2 => ?_⟩
    exact bad2 e q H2 (g2 none) h2
  obtain ⟨op, oxs, os, rfl, rfl, ro, ao⟩ := tup_of ho (by simpa using e1)
  have lo := ao.length
  walk_at "ws"
  refine ⟨op, oxs, rfl, .inr (.inl ro), ?_⟩
  rw [lo]
  walk_at "ws"
  refine w_ite (fun e2 => ?_) (fun e2 => ?_)
  rotate_left
  · have e : tsz 1 8 (.tup os) = false := by
      show (decide (1 ≤ (os.length : Int)) && decide ((os.length : Int) ≤ 8)) = false
      rw [e2]; rfl
    walk_at "ws"
    refine ⟨sz (by simp), fun q H2 hq g2 h2 => ?_⟩
    exact bad2 e q H2 (g2 none) h2
  walk_at "ws"
  refine w_ite (fun e3 => ?_) (fun e3 => ?_)
  · have e : tsz 1 8 (.tup os) = false := by
      show (decide (1 ≤ (os.length : Int)) && decide ((os.length : Int) ≤ 8)) = false
      rw [e2, show decide ((os.length : Int) ≤ 8) = false by simpa using e3]; rfl
    walk_at "ws"
    refine ⟨sz (by simp), fun q H2 hq g2 h2 => ?_⟩
    exact bad2 e q H2 (g2 none) h2
  have o1 : (1 : Int) ≤ os.length := of_decide_eq_true e2
  have o8 : (os.length : Int) ≤ 8 := of_decide_eq_true (by simpa using e3)
  have t2 : tsz 1 8 (.tup os) = true := tsz_len o1 o8
  clear e1 e2 e3 bad2
  walk_at "ws"
  refine ⟨op, oxs, rfl, .inr (.inl ro), ?_⟩
  rw [lo]
  refine i_rng1 (by omega) (by omega) ?_
  refine for_it walk_range (fun i σ H1 => H1 = H ∧ (∀ j, j < i → okO cs.length os j = true) ∧ ∃ u2 u3 u4, σ = [some (.ref op), some (.ref cp), u2, u3, u4]) ⟨rfl, (fun _ h => absurd h (Nat.not_lt_zero _)), _, _, _, rfl⟩ (fun _ _ _ _ _ => trivial) ?_ ?_
  · rintro i _ σ _ H2 hi ⟨e0, hj, u2, u3, u4, rfl⟩ ⟨e00, rfl⟩
    subst e00
    subst e0
    rw [Int.toNat_natCast] at hi
    obtain ⟨tg, htg⟩ : ∃ tg, os[i]? = some tg := ⟨_, List.getElem?_eq_getElem hi⟩
    obtain ⟨vx, hvx, hav⟩ := ao.get' htg
    have egi := getD_of htg
    walk_at "ws"
    refine r_ixT (.inl ro) (at_of (j := i) (by omega) hvx) ?_
    walk_at "ws"
    refine ⟨cp, cxs, rfl, .inr (.inl rc), ?_⟩
    rw [lc]
    walk_at "ws"
    refine ⟨0, (cs.length : Int) - 1, hd, vx, tg, rfl, hav, ?_⟩
    have eo : okO cs.length os i = btw 0 ((cs.length : Int) - 1) tg := by unfold okO; rw [egi, btw_blw]
    rw [← eo]
    walk_at "ws"
    refine w_ite (fun e => ?_) (fun e => ?_)
    · have e : okO cs.length os i = false := by simpa using e
      walk_at "ws"
      refine ⟨sz (by simp), fun q H3 hq g3 h3 => ?_⟩
      simp only [Int.zero_add] at h3
      exact k _ _ (g3 none) (by rw [due_3 t1 t2 (fw_some hi hj e)]; exact dp_sp h3)
    · have e : okO cs.length os i = true := by simpa using e
      walk_at "ws"
      refine ⟨rfl, fun j hj2 => ?_, _, _, _, rfl⟩
      rcases Nat.lt_succ_iff_lt_or_eq.mp hj2 with q | q
      · exact hj j q
      · rw [q]; exact e
  rintro σ H1 ⟨e0, hj, u2, u3, u4, rfl⟩
  subst e0
  rw [Int.toNat_natCast] at hj
  have f3 : fw (okO cs.length os) os.length = none := fw_none hj
  obtain ⟨ns, rfl⟩ : ∃ ns : List Int, os = ns.map Tg.int := ints_ex (b := cs.length) fun t ht => by
    obtain ⟨j, hj2, rfl⟩ := List.getElem_of_mem ht
    have := hj j hj2
    unfold okO at this
    rw [getD_of (List.getElem?_eq_getElem hj2)] at this
    exact this
  obtain rfl := ao.ints_inv
  clear hj
  walk_at "ws"
  refine ⟨cp, cxs, rfl, .inr (.inl rc), ?_⟩
  rw [lc]
  refine i_rng1 (by omega) (by omega) ?_
  refine for_it walk_range (fun i σ H2 => H2 = H1 ∧ (∀ j, j < i → okC cs j = true) ∧ ∃ u2 u3 u4, σ = [some (.ref op), some (.ref cp), u2, u3, u4]) ⟨rfl, (fun _ h => absurd h (Nat.not_lt_zero _)), _, _, _, rfl⟩ (fun _ _ _ _ _ => trivial) ?_ ?_
  · rintro i _ σ _ H2 hi ⟨e0, hj, u2, u3, u4, rfl⟩ ⟨e00, rfl⟩
    subst e00
    subst e0
    rw [Int.toNat_natCast] at hi
    obtain ⟨tg, htg⟩ : ∃ tg, cs[i]? = some tg := ⟨_, List.getElem?_eq_getElem hi⟩
    obtain ⟨vx, hvx, hav⟩ := ac.get' htg
    have egi := getD_of htg
    have eo : okC cs i = tsz 0 60 tg := by unfold okC; rw [egi]
    have bad : okC cs i = false → ∀ q H3, G none H2 H3 → H3 q = some (.tup [.str "codes", .int (i : Nat)]) → Q (.ref q) H3 := fun e q H3 g3 h3 => k _ _ g3 (by rw [due_4 t1 t2 f3 (fw_some hi hj e)]; exact dp_sp h3)
    walk_at "ws"
    refine r_ixT (.inl rc) (at_of (j := i) (by omega) hvx) ?_
    walk_at "ws"
    refine ab_isi T.ik hav (.inr (.inr (.inr rfl))) ?_
    refine ⟨_, rfl, ?_⟩
    refine w_ite (fun e1 => ?_) (fun e1 => ?_)
    · walk_at "ws"
      refine ⟨sz (by simp), fun q H3 hq g3 h3 => ?_⟩
      simp only [Int.zero_add] at h3
      exact bad (by rw [eo]; exact tsz_f (by simpa using e1)) q H3 (g3 none) h3
    obtain ⟨rp, rxs, rs, rfl, rfl, rr, ar⟩ := tup_of hav (by simpa using e1)
    walk_at "ws"
    refine r_ixT (.inl rc) (at_of (j := i) (by omega) hvx) ?_
    walk_at "ws"
    refine ⟨rp, rxs, rfl, .inr (.inl rr), ?_⟩
    rw [ar.length]
    walk_at "ws"
    have eo2 : okC cs i = decide ((rs.length : Int) ≤ 60) := by
      rw [eo]
      show (decide ((0 : Int) ≤ (rs.length : Int)) && decide ((rs.length : Int) ≤ 60)) = _
      rw [decide_eq_true (by omega : (0 : Int) ≤ (rs.length : Int)), Bool.true_and]
    refine w_ite (fun e => ?_) (fun e => ?_)
    · have e : (rs.length : Int) > 60 := of_decide_eq_true (by simpa using e)
      walk_at "ws"
      refine ⟨sz (by simp), fun q H3 hq g3 h3 => ?_⟩
      simp only [Int.zero_add] at h3
      exact bad (by rw [eo2]; exact decide_eq_false (by omega)) q H3 (g3 none) h3
    · have e : ¬ (rs.length : Int) > 60 := of_decide_eq_false (by simpa using e)
      walk_at "ws"
      refine ⟨rfl, fun j hj2 => ?_, _, _, _, rfl⟩
      rcases Nat.lt_succ_iff_lt_or_eq.mp hj2 with q | q
      · exact hj j q
      · rw [q, eo2]; exact decide_eq_true (by omega)
  rintro σ H2 ⟨e0, hj, u2, u3, u4, rfl⟩
  subst e0
  rw [Int.toNat_natCast] at hj
  have f4 : fw (okC cs) cs.length = none := fw_none hj
  walk_at "ws"
  refine ⟨cp, cxs, rfl, .inr (.inl rc), ?_⟩
  rw [lc]
  refine i_rng1 (by omega) (by omega) ?_
  refine for_it walk_range (fun i σ H3 => G none H2 H3 ∧ (∀ j, j < i → (wrR (ns.map Tg.int) cs j).isNone = true) ∧ ∃ u2 u3 u4, σ = [some (.ref op), some (.ref cp), u2, u3, u4]) ⟨G.refl, (fun _ h => absurd h (Nat.not_lt_zero _)), _, _, _, rfl⟩ (fun _ _ _ _ _ => trivial) ?_ ?_
  · rintro i _ σ _ H3 hi ⟨g3, hw, u2, u3, u4, rfl⟩ ⟨rfl, rfl⟩
    rw [Int.toNat_natCast] at hi
    obtain ⟨tg, htg⟩ : ∃ tg, cs[i]? = some tg := ⟨_, List.getElem?_eq_getElem hi⟩
    obtain ⟨vx, hvx, hav⟩ := ac.get' htg
    have egi := getD_of htg
    have okc : tsz 0 60 tg = true := by
      have := hj i hi
      unfold okC at this
      rw [egi] at this
      exact this
    obtain ⟨rp, rxs, rs, rfl, rfl, rr, ar⟩ := tsz_tup hav okc
    have r60 : (rs.length : Int) ≤ 60 := by
      have okc : (decide ((0 : Int) ≤ (rs.length : Int)) && decide ((rs.length : Int) ≤ 60)) = true := okc
      rw [Bool.and_eq_true, decide_eq_true_eq, decide_eq_true_eq] at okc
      exact okc.2
    have ei : itemsT (cs.getD i .non) = rs := by rw [egi]; rfl
    have lr := ar.length
    walk_at "ws"
    refine r_ixT (.inl (g3.tups _ _ rc)) (at_of (j := i) (by omega) hvx) ?_
    walk_at "ws"
    refine ⟨rp, rxs, rfl, .inr (.inl (g3.tups _ _ rr)), ?_⟩
    rw [lr]
    refine i_rng1 (by omega) (by omega) ?_
    refine for_it walk_range (fun kk σ H4 => G none H2 H4 ∧ (∀ j, j < kk → okR (ns.map Tg.int) cs i j = true) ∧ ∃ v2 v4, σ = [some (.ref op), some (.ref cp), v2, some (.int (0 + (i : Int))), v4]) ⟨g3, (fun _ h => absurd h (Nat.not_lt_zero _)), _, _, rfl⟩ (fun _ _ _ _ _ => trivial) ?_ ?_
    · rintro kk _ σ _ H4 hk ⟨g4, hr2, v2, v4, rfl⟩ ⟨rfl, rfl⟩
      rw [Int.toNat_natCast] at hk
      obtain ⟨tr, htr⟩ : ∃ tr, rs[kk]? = some tr := ⟨_, List.getElem?_eq_getElem hk⟩
      obtain ⟨vr, hvr, har⟩ := ar.get' htr
      have egk := getD_of htr
      walk_at "ws"
      refine r_ixT (.inl (g4.tups _ _ rc)) (at_of (j := i) (by omega) hvx) ?_
      walk_at "ws"
      refine ⟨rp, rxs, rfl, .inr (.inl (g4.tups _ _ rr)), ?_⟩
      rw [lr]
      walk_at "ws"
      refine r_ixT (.inl (g4.tups _ _ rc)) (at_of (j := i) (by omega) hvx) ?_
      walk_at "ws"
      refine r_ixT (.inl (g4.tups _ _ rr)) (at_of (j := kk) (by omega) hvr) ?_
      walk_at "ws"
      refine ⟨op, hd, ns, _, _, vr, tr, rfl, .inl (g4.tups _ _ ro), har.n g4, fun H5 g5 => ?_⟩
      have eo : okR (ns.map Tg.int) cs i kk = rowT (ownI ns (0 + (i : Int))) (rs.length : Int) tr := by
        unfold okR
        rw [ei, egk, ownB_I, Int.zero_add]
      rw [← eo]
      have g25 := g4.trans g5
      walk_at "ws"
      refine w_ite (fun e => ?_) (fun e => ?_)
      · have e : okR (ns.map Tg.int) cs i kk = false := by simpa using e
        have ew : wrR (ns.map Tg.int) cs i = some kk := by
          unfold wrR
          rw [ei]
          exact fw_some hk hr2 e
        walk_at "ws"
        refine ⟨sz (by simp), fun q H6 hq g6 h6 => ?_⟩
        simp only [Int.zero_add] at h6
        exact k _ _ (g25.trans (g6 none)) (by rw [due_5 t1 t2 f3 f4 (fw_some hi hw (by rw [ew]; rfl)) ew]; exact dp_ip h6)
      · have e : okR (ns.map Tg.int) cs i kk = true := by simpa using e
        walk_at "ws"
        refine ⟨g25, fun j hj3 => ?_, _, _, rfl⟩
        rcases Nat.lt_succ_iff_lt_or_eq.mp hj3 with q | q
        · exact hr2 j q
        · rw [q]; exact e
    rintro σ H4 ⟨g4, hr2, v2, v4, rfl⟩
    rw [Int.toNat_natCast] at hr2
    refine ⟨g4, fun j hj3 => ?_, _, _, _, rfl⟩
    rcases Nat.lt_succ_iff_lt_or_eq.mp hj3 with q | q
    · exact hw j q
    · rw [q]
      have : wrR (ns.map Tg.int) cs i = none := by
        unfold wrR
        rw [ei]
        exact fw_none hr2
      rw [this]
      rfl
  rintro σ H3 ⟨g3, hw, u2, u3, u4, rfl⟩
  rw [Int.toNat_natCast] at hw
  have f5 : fw (fun m => (wrR (ns.map Tg.int) cs m).isNone) cs.length = none := fw_none hw
  walk_at "ws"
  exact k _ _ g3 (by rw [due_6 t1 t2 f3 f4 f5]; exact .non)

end
end Mine
/-! ## K14 -/


namespace Mine
section
variable {P : Program} {w : World} {K : PySem.W.Frag} {mg : Str → Option Value} {base : Heap} {a : Ads}

/-! ### _law_tried -/
theorem ap_ : ¬ (("part" : Str) = "at") := by decide +kernel
theorem xfs_p (v u : V) : (xfs v u).lookup ("part" : Str) = some v := by
  have e : (("part" : Str) == "at") = false := by simpa using ap_
  simp [xfs, List.lookup, e]
theorem xfs_a (v u : V) : (xfs v u).lookup ("at" : Str) = some u := by simp [xfs, List.lookup]
mutual
theorem Ab.dpu {C : Addr} {hd : Addr × Addr} {H : Hp} : ∀ (t : Tg) (v : V), pureT t = true → Ab C hd H v t → Dp K H v (tgD t)
  | .non, _, _, h => by cases h; exact .non
  | .bl b, _, _, h => by cases h; exact .bl b
  | .int i, _, _, h => by cases h; exact .int i
  | .str s, _, _, h => by cases h; exact .str s
  | .oth, _, e, _ => Bool.noConfusion (show false = true from e)
  | .tup ts, _, e, h => by
    cases h with
    | tup r al => exact .tup (.inl r) (AbAll.dpu ts _ (by rw [pureT] at e; exact e) al)
theorem AbAll.dpu {C : Addr} {hd : Addr × Addr} {H : Hp} : ∀ (ts : List Tg) (vs : List V), pureTs ts = true → AbAll C hd H vs ts → DpAll K H vs (tgDs ts)
  | [], _, _, h => by cases h; exact .nil
  | t :: ts, _, e, h => by
    rw [pureTs, Bool.and_eq_true] at e
    cases h with
    | cons h1 h2 => exact .cons (Ab.dpu t _ e.1 h1) (AbAll.dpu ts _ e.2 h2)
end
def layT : Nat → Tg → Prop
  | _, .int _ => True
  | _, .str s => PyData.strOk s = true
  | n + 1, .tup ts => ∀ t ∈ ts, layT n t
  | _, _ => False
theorem tgDs_map : ∀ ts : List Tg, tgDs ts = ts.map tgD
  | [] => rfl
  | t :: ts => by rw [tgDs, tgDs_map ts]; rfl
theorem canAll {ds : List PyData} (h : ∀ d ∈ ds, d.canLay0 = true) : PyData.canLayAll0 ds = true := by
  induction ds with
  | nil => rfl
  | cons d ds ih => rw [PyData.canLayAll0, h d List.mem_cons_self, ih fun e he => h e (List.mem_cons_of_mem _ he)]; rfl
theorem depAll {n : Nat} {ds : List PyData} (h : ∀ d ∈ ds, d.depth ≤ n) : PyData.depthAll ds ≤ n := by
  induction ds with
  | nil => exact Nat.zero_le _
  | cons d ds ih =>
    rw [PyData.depthAll]
    exact Nat.max_le.mpr ⟨h d List.mem_cons_self, ih fun e he => h e (List.mem_cons_of_mem _ he)⟩
theorem lay_can : ∀ (n : Nat) (t : Tg), layT n t → (tgD t).canLay0 = true ∧ (tgD t).depth ≤ n
  | n, .int i, _ => ⟨rfl, Nat.zero_le _⟩
  | n, .str s, h => by cases n <;> exact ⟨h, Nat.zero_le _⟩
  | n + 1, .tup ts, h => by
    have k : ∀ d ∈ tgDs ts, d.canLay0 = true ∧ d.depth ≤ n := fun d hd => by
      rw [tgDs_map] at hd
      obtain ⟨t, ht, rfl⟩ := List.mem_map.mp hd
      exact lay_can n t (h t ht)
    refine ⟨canAll fun d hd => (k d hd).1, ?_⟩
    show (PyData.tuple (tgDs ts)).depth ≤ n + 1
    rw [PyData.depth]
    have := depAll fun d hd => (k d hd).2
    omega
  | 0, .tup ts, h => h.elim
  | n, .non, h => by cases n <;> exact h.elim
  | n, .bl b, h => by cases n <;> exact h.elim
  | n, .oth, h => by cases n <;> exact h.elim
theorem lay_shaped {n : Nat} {t : Tg} (h : layT n t) (hn : n ≤ 64) : SeqAt.shaped (tgD t) = true := by
  obtain ⟨h1, h2⟩ := lay_can n t h
  show ((tgD t).canLay0 && decide ((tgD t).depth ≤ 64)) = true
  rw [h1, decide_eq_true (Nat.le_trans h2 hn)]
  rfl
theorem keys_ok : ∀ kv ∈ tab_FORMS, PyData.strOk kv.1 = true := by decide +kernel
theorem lookup_key {s f : Str} : ∀ {l : List (Str × Str)}, l.lookup s = some f → ∃ kv ∈ l, kv.1 = s
  | [], e => nomatch e
  | kv :: l, e => by
    rw [List.lookup_cons] at e
    split at e
    · exact ⟨kv, List.mem_cons_self, by rename_i z; exact (by simpa using z : s = kv.1).symm⟩
    · obtain ⟨kv2, m, q⟩ := lookup_key e
      exact ⟨kv2, List.mem_cons_of_mem _ m, q⟩
theorem row_lay {own : List Bool} {rows : Int} {t : Tg} (e : rowT own rows t = true) : layT 1 t := by
  obtain ⟨s, ts, rfl, h, _, f, hf⟩ := rowT_is e
  intro u hu
  rcases List.mem_cons.mp hu with q | q
  · rw [q]
    obtain ⟨kv, m, rfl⟩ := lookup_key hf
    exact keys_ok kv m
  · obtain ⟨i, rfl⟩ := h u q
    trivial
theorem IsProg.layO {os : List Int} {cs : List Tg} (h : IsProg os cs) : layT 1 (tgI os) := fun t ht => by
  obtain ⟨i, _, rfl⟩ := List.mem_map.mp ht
  trivial
theorem IsProg.layC {os : List Int} {cs : List Tg} (h : IsProg os cs) : layT 3 (.tup cs) := fun t ht => by
  obtain ⟨j, hj, rfl⟩ := List.getElem_of_mem ht
  obtain ⟨rs, e, _, hr⟩ := h.ok j _ (List.getElem?_eq_getElem hj)
  rw [e]
  exact fun r m => (fun {t} (h : layT 1 t) => show layT 1 t from h) (row_lay (hr r m))
theorem pureO (os : List Int) : pureT (tgI os) = true := by
  show pureTs (os.map Tg.int) = true
  rw [pureTs_all]
  intro t ht
  obtain ⟨i, _, rfl⟩ := List.mem_map.mp ht
  rfl
theorem due_none {to tc : Tg} (h : due to tc = none) : ∃ os cs, to = tgI os ∧ tc = .tup cs ∧ IsProg os cs := by
  by_cases e1 : tsz 1 7 tc = true
  · by_cases e2 : tsz 1 8 to = true
    · cases tc with
      | tup cs =>
        cases to with
        | tup ts =>
          cases f3 : fw (okO cs.length ts) ts.length with
          | some i => rw [due_3 e1 e2 f3] at h; cases h
          | none =>
            cases f4 : fw (okC cs) cs.length with
            | some i => rw [due_4 e1 e2 f3 f4] at h; cases h
            | none =>
              cases f5 : fw (fun m => (wrR ts cs m).isNone) cs.length with
              | some m =>
                have q : (wrR ts cs m).isNone = false := by
                  have := List.find?_some f5
                  simpa using this
                cases q2 : wrR ts cs m with
                | none => rw [q2] at q; cases q
                | some i => rw [due_5 e1 e2 f3 f4 f5 q2] at h; cases h
              | none =>
                have hb : ∀ t ∈ ts, blw cs.length t = true := fun t ht => by
                  obtain ⟨j, hj, rfl⟩ := List.getElem_of_mem ht
                  have := fw_all f3 j hj
                  unfold okO at this
                  rw [getD_of (List.getElem?_eq_getElem hj)] at this
                  exact this
                obtain ⟨os, rfl⟩ := ints_ex hb
                have e1 : (decide ((1 : Int) ≤ cs.length) && decide ((cs.length : Int) ≤ 7)) = true := e1
                have e2 : (decide ((1 : Int) ≤ (os.map Tg.int).length) && decide (((os.map Tg.int).length : Int) ≤ 8)) = true := e2
                rw [Bool.and_eq_true, decide_eq_true_eq, decide_eq_true_eq] at e1 e2
                rw [List.length_map] at e2
                refine ⟨os, cs, rfl, rfl, by omega, by omega, by omega, by omega, fun o ho => ?_, fun j t ht => ?_⟩
                · have : (decide (0 ≤ o) && decide (o < (cs.length : Int))) = true := hb (.int o) (List.mem_map.mpr ⟨o, ho, rfl⟩)
                  rw [Bool.and_eq_true, decide_eq_true_eq, decide_eq_true_eq] at this
                  exact this
                · have hj : j < cs.length := (List.getElem?_eq_some_iff.mp ht).1
                  have k4 := fw_all f4 j hj
                  have k5 := fw_all f5 j hj
                  unfold okC at k4
                  rw [getD_of ht] at k4
                  cases t with
                  | tup rs =>
                    have k4 : (decide ((0 : Int) ≤ rs.length) && decide ((rs.length : Int) ≤ 60)) = true := k4
                    rw [Bool.and_eq_true, decide_eq_true_eq, decide_eq_true_eq] at k4
                    refine ⟨rs, rfl, by omega, fun r hr => ?_⟩
                    obtain ⟨i, hi, rfl⟩ := List.getElem_of_mem hr
                    have k5 : wrR (os.map Tg.int) cs j = none := by
                      cases z : wrR (os.map Tg.int) cs j with
                      | none => rfl
                      | some i => rw [z] at k5; cases k5
                    unfold wrR at k5
                    rw [getD_of ht] at k5
                    have := fw_all k5 i hi
                    unfold okR at this
                    rw [getD_of ht, ownB_I] at this
                    have this : rowT (ownI os j) (rs.length : Nat) (rs.getD i .non) = true := this
                    rw [getD_of (List.getElem?_eq_getElem hi)] at this
                    exact this
                  | non => exact Bool.noConfusion (show false = true from k4)
                  | bl _ => exact Bool.noConfusion (show false = true from k4)
                  | int _ => exact Bool.noConfusion (show false = true from k4)
                  | str _ => exact Bool.noConfusion (show false = true from k4)
                  | oth => exact Bool.noConfusion (show false = true from k4)
        | non => cases e2
        | bl _ => cases e2
        | int _ => cases e2
        | str _ => cases e2
        | oth => cases e2
      | non => cases e1
      | bl _ => cases e1
      | int _ => cases e1
      | str _ => cases e1
      | oth => cases e1
    · rw [due_2 e1 (Bool.eq_false_iff.mpr e2)] at h; cases h
  · rw [due_1 (Bool.eq_false_iff.mpr e1)] at h; cases h
theorem due_v {H : Hp} {to tc : Tg} {p : V} {y : Int} (h : due to tc = some (p, y)) : Dp K H p (vD p) := by
  have k : ∀ (s : Str) (i : Int), some (V.str s, i) = some (p, y) → Dp K H p (vD p) := fun s i z => by cases z; exact .str s
  unfold due at h
  split at h
  · split at h
    · split at h
      · exact k _ _ h
      · split at h
        · exact k _ _ h
        · split at h
          · cases h; exact .int _
          · cases h
    · exact k _ _ h
  · exact k _ _ h
/-- a new program, of any two things -/
theorem make_prog {C CB : Addr} {hd : Addr × Addr} {H1 : Hp} {wv dv : V} {tw td : Tg} {F : Addr → Hp → Prop} {E : XK} (hw : Ab C hd H1 wv tw) (hdd : Ab C hd H1 dv td)
    (q : due tw td = none → ∀ x dx H2, H1 x = none → (∀ o, G o H1 H2) → H2 x = some (.ins C dx (rf wv dv)) → F x H2)
    (z : ∀ p y, due tw td = some (p, y) → ∀ d H', G none H1 H' → H' d = some (.xd (xfs p (.int y))) → E (.ref CB) (some d) H') :
    ∀ x dx, H1 x = none → H1 dx = none → dx ≠ x → sp_Program_init C CB (.ref x :: ([wv, dv] ++ [])) (upd (upd H1 dx (.own x)) x (.ins C dx [])) (fun v H2 => v = .non ∧ F x H2) E := by
  intro x dx hx hdx nex
  have k12 : ∀ a u, H1 a = some u → (upd (upd H1 dx (.own x)) x (.ins C dx [])) a = some u := fun a u e => by
    rw [upd_ne (ne_of_none e hx), upd_ne (ne_of_none e hdx)]; exact e
  have g12 : G none H1 (upd (upd H1 dx (.own x)) x (.ins C dx [])) := G.of_all k12
  refine ⟨x, dx, hd, wv, dv, tw, td, rfl, upd_same, hw.n g12, hdd.n g12, fun e H2 k2 h2 => ⟨rfl, ?_⟩, fun p y ee d H' g h => z p y ee d H' (g12.trans g) h⟩
  exact q e x dx H2 hx (fun o => G.of_all fun a u e => k2 a u (ne_of_none e hx) (k12 a u e)) h2
def sp__law_tried (K : PySem.W.Frag) (C : Addr) : Sp := fun vs H Q _ => ∃ (hd : Addr × Addr) (ov cv : V) (to tc : Tg), vs = [ov, cv] ∧ Ab C hd H ov to ∧ Ab C hd H cv tc ∧ ∀ v H', G none H H' → Dp K H' v (dueD (due to tc)) → Q v H'
theorem ok__law_tried (T : Txt w K mg a) : FnOk P w K mg base CX0 9 a.f__law_tried a.d__law_tried P__law_tried (sp__law_tried K a.c_Program) := by
  refine T.F__law_tried.ok sc__law_tried (fun vs H Q E h => by obtain ⟨hd, ov, cv, to, tc, rfl, _⟩ := h; rfl) (fun cdv A outer s H vs Q E hr h => ?_)
  obtain ⟨hd, ov, cv, to, tc, rfl, ho, hc, k⟩ := h
  have G_Program_init : FnOk P w K mg base (L2.CX P w) 7 a.f_Program_init a.d_Program_init P_Program_init (sp_Program_init a.c_Program a.c_BadProgram) := ok_Program_init T
  refine ⟨_, (pss_cons (ps_set (i := 2) sc__law_tried.nd rfl (Or.inl rfl) pe_str)
  (pss_cons (ps_try_as (i := 4) (tb := fun W => tSeq (tAsg (tMakeS a.c_Program (sp_Program_init a.c_Program a.c_BadProgram) (WE W) (tCons (tVar 0) (tCons (tVar 1) tNil))) (gName 3)) (tAsg (tIf (tAnd (tTest (tOp (rEqD K) (tFld K (tVar 3) "owners") (tVar 0))) (tTest (tOp (rEqD K) (tFld K (tVar 3) "codes") (tVar 1)))) (tC .non) (tC (.str "unlike"))) (gName 2))) (Wout := fun _ _ _ _ => False) rfl rfl sc__law_tried.nd rfl rfl ⟨rfl, by decide, Or.inl T.m_BadProgram⟩ takes0 (fun W pn xe tk _ => (pss_cons (ps_set (i := 3) sc__law_tried.nd rfl (Or.inl rfl) (by exact (pe_makeS T.K_Program G_Program_init (hr.mono (by decide)) rfl T.m_Program T.b_Program_init (fun σ => passAt tk σ) (pa_cons (pv 0) (pa_cons (pv 1) pa_nil))))) (pss_one (ps_set (i := 2) sc__law_tried.nd rfl (Or.inl rfl) (pe_ifExp (L2.PW.pt (pw_and (pt_cmpR (op_eqD hr.units) (pe_fld (pv 3) rfl) (pv 0) (nomark _)) (pw_and1 (pt_cmpR (op_eqD hr.units) (pe_fld (pv 3) rfl) (pv 1) (nomark _))))) pe_non pe_str))))) (fun x oe cls d pn hz hf => (pss_one (ps_set (i := 2) sc__law_tried.nd rfl (Or.inl rfl) (pe_ifExp (L2.PW.pt (pw_and (pt_val (pe_callB (call_isX' T.xc hz hf) (by rfl) T.n_isinstance (by decide +kernel) (pa_cons (pv 4) (pa_cons (pe_glob (v := .ref a.c_GrowError) rfl T.m_GrowError rfl) pa_nil)))) (pw_and1 (pt_val (pe_callB (call_isX' T.xc hz hf) (by rfl) T.n_isinstance (by decide +kernel) (pa_cons (pv 4) (pa_cons (pe_bltn (v := .ty "ValueError") (u := .type "ValueError") rfl T.n_ValueError (by decide +kernel) rfl) pa_nil))))))) (pe_tupN (pa_cons (pe_xf T.xf T.xp hz hf (pv 4)) (pa_cons (pe_xf T.xf T.xa hz hf (pv 4)) pa_nil))) pe_str)))))
  (pss_one (ps_ret (pv 2))))), ?_⟩
  walk_at "ws"
  dsimp only
  walk_at "ws"
  refine w_makeS ?_
  walk_at "ws"
  refine make_prog ho hc (fun e x dx H1 hx g1 h1 => ?_) (fun p y ee d H1 g1 h1 => ?_)
  · obtain ⟨os, cs, rfl, rfl, pr⟩ := due_none e
    have g01 := g1 none
    have do1 : Dp K H1 ov (tgD (tgI os)) := Ab.dpu _ _ (pureO os) (ho.n g01)
    have dc1 : Dp K H1 cv (tgD (.tup cs)) := Ab.dpu _ _ (by rw [pureT]; exact pr.ok.pure) (hc.n g01)
    have so := lay_shaped pr.layO (by decide)
    have sc := lay_shaped pr.layC (by decide)
    have eo := SeqAt.eqv_refl _ (SeqAt.canLay_of_shaped so)
    have ec := SeqAt.eqv_refl _ (SeqAt.canLay_of_shaped sc)
    walk_at "ws"
    refine r_fld h1 T.cl_Program T.na_Program_owners (rf_w _ _) ?_
    walk_at "ws"
    refine ⟨_, _, do1, do1, so, so, ?_⟩
    rw [eo]
    walk_at "ws"
    refine r_fld h1 T.cl_Program T.na_Program_codes (rf_d _ _) ?_
    walk_at "ws"
    refine ⟨_, _, dc1, dc1, sc, sc, ?_⟩
    rw [ec]
    walk_at "ws"
    exact k _ _ g01 (by rw [e]; exact .non)
  · refine ⟨true, T.xm, fun _ x0 hx0 => ?_, fun q => Bool.noConfusion q⟩
    walk_at "ws"
    refine ⟨rfl, _, _, true, d, _, rfl, .own _, rfl, h1, T.xg, ?_⟩
    walk_at "ws"
    refine ⟨rfl, _, _, true, d, _, rfl, .ty _, rfl, h1, T.xv, ?_⟩
    walk_at "ws"
    refine w_xf ?_
    walk_at "ws"
    refine ⟨rfl, rfl, d, _, p, rfl, h1, xfs_p _ _, ?_⟩
    walk_at "ws"
    refine w_xf ?_
    walk_at "ws"
    refine ⟨rfl, rfl, d, _, .int y, rfl, h1, xfs_a _ _, ?_⟩
    walk_at "ws"
    refine ⟨sz (by simp), fun q1 H2 hq1 g2 h2 => ?_⟩
    walk_at "ws"
    refine k _ H2 (g1.trans (g2 none)) ?_
    rw [ee]
    exact .tup (SqT.of h2) (.cons (due_v ee) (.cons (.int _) .nil))

end
end Mine
/-! ## K15 -/


namespace Mine
section
variable {P : Program} {w : World} {K : PySem.W.Frag} {mg : Str → Option Value} {base : Heap} {a : Ads}

/-! ### rows, bent -/
theorem w_dnew {o : Option (Addr × Addr)} {σ : L2.St} {H : Hp} {Q : VK} (q : ∀ p H1, H p = none → (∀ o, G o H H1) → H1 p = some (.dK []) → Q (.ref p) H1) : tDNewK σ H Q := fun p hp => q p _ hp (fun _ => G.alloc hp) upd_same
/-- any thing, any things -/
def Any (C : Addr) (hd : Addr × Addr) (H : Hp) (v : V) : Prop := ∃ t, Ab C hd H v t
def Anys (C : Addr) (hd : Addr × Addr) (H : Hp) (xs : List V) : Prop := ∃ ts, AbAll C hd H xs ts
section
variable {C : Addr} {hd : Addr × Addr} {H H' : Hp} {xs ys : List V} {v : V} {o : Option (Addr × Addr)}
theorem Any.g (h : Any C hd H v) (g : G o H H') (oh : OH o hd) : Any C hd H' v := let ⟨t, q⟩ := h; ⟨t, q.g g oh⟩
theorem Any.n (h : Any C hd H v) (g : G none H H') : Any C hd H' v := h.g g OH.n
theorem Anys.g (h : Anys C hd H xs) (g : G o H H') (oh : OH o hd) : Anys C hd H' xs := let ⟨t, q⟩ := h; ⟨t, q.g g oh⟩
theorem Anys.n (h : Anys C hd H xs) (g : G none H H') : Anys C hd H' xs := h.g g OH.n
theorem Anys.nil : Anys C hd H [] := ⟨[], .nil⟩
theorem Any.cons (h : Any C hd H v) (k : Anys C hd H xs) : Anys C hd H (v :: xs) := let ⟨t, q⟩ := h; let ⟨ts, qs⟩ := k; ⟨t :: ts, .cons q qs⟩
theorem Anys.one (h : Any C hd H v) : Anys C hd H [v] := h.cons .nil
theorem Anys.app (h : Anys C hd H xs) (k : Anys C hd H ys) : Anys C hd H (xs ++ ys) := let ⟨t, q⟩ := h; let ⟨ts, qs⟩ := k; ⟨t ++ ts, AbAll.app q qs⟩
theorem Anys.rep (h : Anys C hd H xs) (k : Nat) : Anys C hd H (List.replicate k xs).flatten := let ⟨_, q⟩ := h; ⟨_, ab_rep q k⟩
theorem Anys.cut (h : Anys C hd H xs) (lo hi : Option Int) : Anys C hd H (cutV xs lo hi) := let ⟨_, q⟩ := h; let ⟨us, q2, _⟩ := ab_cut q lo hi; ⟨us, q2⟩
theorem Anys.at {r : Int} (h : Anys C hd H xs) (r0 : 0 ≤ r) (r1 : r < xs.length) : ∃ v t, atI xs r = some v ∧ Ab C hd H v t := by
  obtain ⟨ts, q⟩ := h
  obtain ⟨v, t, e, _, k⟩ := at_ab q r0 r1
  exact ⟨v, t, e, k⟩
end
def sp__law_bent_row (C : Addr) : Sp := fun vs H Q _ => ∃ (hd c rp : Addr) (xs : List V) (size : Int), vs = [.ref hd, .ref rp, .int size] ∧ Hand H hd c ∧ Rd H rp (.tup xs) ∧ Anys C (hd, c) H xs ∧ 1 ≤ xs.length ∧ xs.length ≤ 4 ∧
  ∀ v t H', G (some (hd, c)) H H' → Hand H' hd c → Ab C (hd, c) H' v t → Q v H'
theorem ok__law_bent_row (T : Txt w K mg a) : FnOk P w K mg base CX0 2 a.f__law_bent_row a.d__law_bent_row P__law_bent_row (sp__law_bent_row a.c_Program) := by
  refine T.F__law_bent_row.ok sc__law_bent_row (fun vs H Q E h => by obtain ⟨hd, c, rp, xs, size, rfl, _⟩ := h; rfl) (fun cdv A outer s H0 vs Q E hr h => ?_)
  obtain ⟨hd, c, rp, xs, size, rfl, hh, rr, AX, l1, l4, k⟩ := h
  have G__law_draw : FnOk P w K mg base CX0 1 a.f__law_draw a.d__law_draw P__law_draw sp__law_draw := ok__law_draw T
  have G__law_deep : FnOk P w K mg base CX0 1 a.f__law_deep a.d__law_deep P__law_deep sp__law_deep := ok__law_deep T
  refine ⟨_, (pss_cons (ps_set (i := 3) sc__law_bent_row.nd rfl (Or.inl rfl) (pe_call (G__law_draw) (hr.mono (by omega)) rfl T.m__law_draw T.F__law_draw.kp T.b__law_draw .nil pass0 (pa_cons (pv 0) (pa_cons (pe_callB call_len_seq (by rfl) T.n_len (by decide +kernel) (pa_cons (pv 1) pa_nil)) pa_nil))))
  (pss_cons (ps_set (i := 4) sc__law_bent_row.nd rfl (Or.inl rfl) (pe_lstN (pa_cons pe_non (pa_cons pe_bl (pa_cons pe_bl (pa_cons (pe_un un_neg pe_int) (pa_cons pe_int (pa_cons (pv 2) (pa_cons (pe_op op_add (pv 2) pe_int) (pa_cons pe_str (pa_cons (pe_tupN (pa_cons pe_int pa_nil)) (pa_cons (pe_op op_add (pe_op op_pow pe_int pe_int) pe_int) (pa_cons (pe_op op_sub (pe_un un_neg (pe_op op_pow pe_int pe_int)) pe_int) (pa_cons pe_int (pa_cons pe_int (pa_cons (pe_call0 (G__law_deep) (hr.mono (by omega)) rfl T.m__law_deep T.F__law_deep.kp T.b__law_deep .nil pass0) (pa_cons pe_int pa_nil)))))))))))))))))
  (pss_cons (ps_set (i := 5) sc__law_bent_row.nd rfl (Or.inl rfl) (pe_ix ix_list (pv 4) (pe_call (G__law_draw) (hr.mono (by omega)) rfl T.m__law_draw T.F__law_draw.kp T.b__law_draw .nil pass0 (pa_cons (pv 0) (pa_cons pe_int pa_nil))) (fun _ _ => rfl)))
  (pss_cons (ps_set (i := 6) sc__law_bent_row.nd rfl (Or.inl rfl) (pe_lstN (pa_cons pe_str (pa_cons pe_str (pa_cons pe_str (pa_cons pe_str (pa_cons pe_str (pa_cons pe_str (pa_cons pe_str (pa_cons pe_str (pa_cons pe_non (pa_cons pe_int pa_nil))))))))))))
  (pss_cons (ps_set (i := 7) sc__law_bent_row.nd rfl (Or.inl rfl) (pe_op op_catLN (pe_op op_repL (pe_lstN (pa_cons (pe_op op_catR (pe_op op_catR (pe_slice sl_tupR (pv 1) po_none (po_some (pv 3))) (pe_tupN (pa_cons (pv 5) pa_nil))) (pe_slice sl_tupR (pv 1) (po_some (pe_op op_add (pv 3) pe_int)) po_none)) pa_nil)) pe_int) (pe_lstN (pa_cons (pe_op op_catR (pv 1) (pe_tupN (pa_cons pe_int pa_nil))) (pa_cons (pe_slice sl_tupR (pv 1) po_none (po_some (pe_un un_neg pe_int))) (pa_cons (pe_callTy call_listN (by rfl) T.n_list (by decide +kernel) (pa_cons (pv 1) pa_nil)) (pa_cons (pe_ix ix_tup (pv 1) pe_int (fun _ _ => rfl)) (pa_cons (pe_tupN pa_nil) (pa_cons pe_non (pa_cons pe_dnewK pa_nil))))))))))
  (pss_one (ps_ret (pe_ix ix_list (pe_op op_catLN (pv 7) (pe_lstN (pa_cons (pe_op op_catR (pe_tupN (pa_cons (pe_ix ix_list (pv 6) (pe_call (G__law_draw) (hr.mono (by omega)) rfl T.m__law_draw T.F__law_draw.kp T.b__law_draw .nil pass0 (pa_cons (pv 0) (pa_cons pe_int pa_nil))) (fun _ _ => rfl)) pa_nil)) (pe_slice sl_tupR (pv 1) (po_some pe_int) po_none)) (pa_cons (pe_op op_catR (pe_tupN (pa_cons (pe_ix ix_list (pv 6) (pe_call (G__law_draw) (hr.mono (by omega)) rfl T.m__law_draw T.F__law_draw.kp T.b__law_draw .nil pass0 (pa_cons (pv 0) (pa_cons pe_int pa_nil))) (fun _ _ => rfl)) pa_nil)) (pe_slice sl_tupR (pv 1) (po_some pe_int) po_none)) (pa_cons (pe_call0 (G__law_deep) (hr.mono (by omega)) rfl T.m__law_deep T.F__law_deep.kp T.b__law_deep .nil pass0) pa_nil))))) (pe_call (G__law_draw) (hr.mono (by omega)) rfl T.m__law_draw T.F__law_draw.kp T.b__law_draw .nil pass0 (pa_cons (pv 0) (pa_cons pe_int pa_nil))) (fun _ _ => rfl))))))))), ?_⟩
  walk_at "ws"
  refine ⟨rp, xs, rfl, .inr (.inl rr), ?_⟩
  walk_at "ws"
  refine ⟨hd, c, (xs.length : Int), rfl, hh, by omega, by omega, fun at_ H1 a0 a1 g1 hh1 => ?_⟩
  walk_at "ws"
  refine ⟨sz (by simp), fun p2 H2 hp2 g2 h2 => ?_⟩
  walk_at "ws"
  refine r_I ⟨by decide, by decide, by decide⟩ ?_
  walk_at "ws"
  refine r_I ⟨by decide, by decide, by decide⟩ ?_
  walk_at "ws"
  have hq2 := (G.hand (g1.trans (g2 _)) (hd, c) rfl hh)
  refine ⟨rfl, fun p3 ys3 H3 hp3 g3 h3 => ?_⟩
  have n3 := hq2.ne hp3
  walk_at "ws"
  have hq3 := (G.hand ((g1.trans (g2 _)).trans g3.up) (hd, c) rfl hh)
  refine ⟨sz (by simp), fun p4 H4 hp4 g4 h4 => ?_⟩
  have n4 := hq3.ne hp4
  have A4 : Anys a.c_Program (hd, c) H4 [.non, .bl true, .bl false, .int (-1), .int 8, .int size, .int (size + 1), .str "0", .ref p2, .int (10 ^ (6 : Int).toNat + 1), .int (-(10 ^ (6 : Int).toNat) - 1), .int 7, .int 0, .ref p3, .int 1] :=
    ⟨_, .cons .non (.cons (.bl _) (.cons (.bl _) (.cons (.int _) (.cons (.int _) (.cons (.int _) (.cons (.int _) (.cons (.str _) (.cons (.tup (.inl ((g3.trans (g4 none)).all _ _ h2)) (.cons (.int _) .nil)) (.cons (.int _) (.cons (.int _) (.cons (.int _) (.cons (.int _) (.cons (ab_lst n3 ((g4 none).all _ _ h3)) (.cons (.int _) .nil))))))))))))))⟩
  obtain ⟨L4, eL, ln4⟩ : ∃ L : List V, L = [.non, .bl true, .bl false, .int (-1), .int 8, .int size, .int (size + 1), .str "0", .ref p2, .int (10 ^ (6 : Int).toNat + 1), .int (-(10 ^ (6 : Int).toNat) - 1), .int 7, .int 0, .ref p3, .int 1] ∧ L.length = 15 := ⟨_, rfl, rfl⟩
  rw [← eL] at A4 h4
  clear eL
  walk_at "ws"
  refine ⟨hd, c, 15, rfl, (G.hand (((g1.trans (g2 _)).trans g3.up).trans (g4 _)) (hd, c) rfl hh), by decide, by decide, fun z H5 z0 z1 g5 hh5 => ?_⟩
  obtain ⟨pt, tpt, e1, apt⟩ := Anys.at (A4.g g5 OH.s) z0 (by rw [ln4]; exact z1)
  refine r_ixL (SqL.of (G.keep g5 p4 _ (fun q e => by cases e; exact n4) h4)) e1 ?_
  walk_at "ws"
  have hq5 := (G.hand ((((g1.trans (g2 _)).trans g3.up).trans (g4 _)).trans g5) (hd, c) rfl hh)
  refine ⟨sz (by simp), fun p6 H6 hp6 g6 h6 => ?_⟩
  have n6 := hq5.ne hp6
  have A6 : Anys a.c_Program (hd, c) H6 [.str "set", .str "go", .str "back", .str "rest", .str "tell", .str "Set", .str "jump", .str "", .non, .int 3] := ⟨_, .cons (.str _) (.cons (.str _) (.cons (.str _) (.cons (.str _) (.cons (.str _) (.cons (.str _) (.cons (.str _) (.cons (.str _) (.cons .non (.cons (.int _) .nil)))))))))⟩
  obtain ⟨L6, eL, ln6⟩ : ∃ L : List V, L = [.str "set", .str "go", .str "back", .str "rest", .str "tell", .str "Set", .str "jump", .str "", .non, .int 3] ∧ L.length = 10 := ⟨_, rfl, rfl⟩
  rw [← eL] at A6 h6
  clear eL
  walk_at "ws"
  refine ⟨rp, xs, rfl, ((((((g1.trans (g2 _)).trans g3.up).trans (g4 _)).trans g5).trans (g6 _)).tups _ _ rr), fun p7 H7 gg7 r7 => ?_⟩
  have g7 := gg7 none
  have c1 := cut_le xs none (some at_)
  walk_at "ws"
  refine ⟨sz (by simp), fun p8 H8 hp8 g8 h8 => ?_⟩
  refine ⟨p7, p8, _, _, rfl, rfl, ((g8 none).tups _ _ r7), (.inl h8), by simp; omega, fun p9 H9 gg9 r9 => ?_⟩
  have g9 := gg9 none
  walk_at "ws"
  refine ⟨rp, xs, rfl, (((((((((g1.trans (g2 _)).trans g3.up).trans (g4 _)).trans g5).trans (g6 _)).trans g7.up).trans (g8 _)).trans g9.up).tups _ _ rr), fun p10 H10 gg10 r10 => ?_⟩
  have g10 := gg10 none
  have c2 := cut_le xs (some (at_ + 1)) none
  refine ⟨p9, p10, _, _, rfl, rfl, (g10.tups _ _ r9), r10, by simp only [List.length_append, List.length_singleton]; omega, fun p11 H11 gg11 r11 => ?_⟩
  have g11 := gg11 none
  walk_at "ws"
  have U11 : Any a.c_Program (hd, c) H11 (.ref p11) := ⟨_, .tup r11 (((AX.g ((((((((((g1.trans (g2 _)).trans g3.up).trans (g4 _)).trans g5).trans (g6 _)).trans g7.up).trans (g8 _)).trans g9.up).trans g10.up).trans g11.up) OH.s).cut none (some at_)).choose_spec.app (.cons (apt.n ((((((g6 none).trans g7).trans (g8 none)).trans g9).trans g10).trans g11)) .nil) |>.app ((AX.g ((((((((((g1.trans (g2 _)).trans g3.up).trans (g4 _)).trans g5).trans (g6 _)).trans g7.up).trans (g8 _)).trans g9.up).trans g10.up).trans g11.up) OH.s).cut (some (at_ + 1)) none).choose_spec)⟩
  refine ⟨sz (by simp), fun p12 H12 hp12 g12 h12 => ?_⟩
  walk_at "ws"
  refine ⟨p12, 4, _, rfl, rfl, h12, by decide, by decide, by simp, fun p13 H13 hp13 g13 h13 => ?_⟩
  walk_at "ws"
  refine ⟨sz (by simp), fun p14 H14 hp14 g14 h14 => ?_⟩
  refine ⟨rp, p14, _, _, rfl, rfl, ((((((((((((((g1.trans (g2 _)).trans g3.up).trans (g4 _)).trans g5).trans (g6 _)).trans g7.up).trans (g8 _)).trans g9.up).trans g10.up).trans g11.up).trans (g12 _)).trans (g13 _)).trans (g14 _)).tups _ _ rr), (.inl h14), by simp; omega, fun p15 H15 gg15 r15 => ?_⟩
  have g15 := gg15 none
  walk_at "ws"
  refine ⟨rp, xs, rfl, (((((((((((((((g1.trans (g2 _)).trans g3.up).trans (g4 _)).trans g5).trans (g6 _)).trans g7.up).trans (g8 _)).trans g9.up).trans g10.up).trans g11.up).trans (g12 _)).trans (g13 _)).trans (g14 _)).trans g15.up).tups _ _ rr), fun p16 H16 gg16 r16 => ?_⟩
  have g16 := gg16 none
  have c3 := cut_le xs none (some (-1))
  walk_at "ws"
  have hq16 := (G.hand (((((((((((((((g1.trans (g2 _)).trans g3.up).trans (g4 _)).trans g5).trans (g6 _)).trans g7.up).trans (g8 _)).trans g9.up).trans g10.up).trans g11.up).trans (g12 _)).trans (g13 _)).trans (g14 _)).trans g15.up).trans g16.up) (hd, c) rfl hh)
  refine ⟨rp, xs, rfl, .inr (.inl ((((((((((((((((g1.trans (g2 _)).trans g3.up).trans (g4 _)).trans g5).trans (g6 _)).trans g7.up).trans (g8 _)).trans g9.up).trans g10.up).trans g11.up).trans (g12 _)).trans (g13 _)).trans (g14 _)).trans g15.up).trans g16.up).tups _ _ rr)), fun p17 H17 hp17 g17 h17 => ?_⟩
  have n17 := hq16.ne hp17
  walk_at "ws"
  obtain ⟨x0, tx0, ex0, ax0⟩ := AX.at (r := 0) (by decide) (by omega)
  refine r_ixT (.inl (((((((((((((((((g1.trans (g2 _)).trans g3.up).trans (g4 _)).trans g5).trans (g6 _)).trans g7.up).trans (g8 _)).trans g9.up).trans g10.up).trans g11.up).trans (g12 _)).trans (g13 _)).trans (g14 _)).trans g15.up).trans g16.up).trans (g17 _)).tups _ _ rr)) ex0 ?_
  walk_at "ws"
  refine ⟨sz (by simp), fun p18 H18 hp18 g18 h18 => ?_⟩
  walk_at "ws"
  have hq18 := (G.hand (((((((((((((((((g1.trans (g2 _)).trans g3.up).trans (g4 _)).trans g5).trans (g6 _)).trans g7.up).trans (g8 _)).trans g9.up).trans g10.up).trans g11.up).trans (g12 _)).trans (g13 _)).trans (g14 _)).trans g15.up).trans g16.up).trans (g17 _)).trans (g18 _)) (hd, c) rfl hh)
  refine w_dnew (o := none) fun p19 H19 hp19 g19 h19 => ?_
  have n19 := hq18.ne hp19
  walk_at "ws"
  have hq19 := (G.hand ((((((((((((((((((g1.trans (g2 _)).trans g3.up).trans (g4 _)).trans g5).trans (g6 _)).trans g7.up).trans (g8 _)).trans g9.up).trans g10.up).trans g11.up).trans (g12 _)).trans (g13 _)).trans (g14 _)).trans g15.up).trans g16.up).trans (g17 _)).trans (g18 _)).trans (g19 _)) (hd, c) rfl hh)
  refine ⟨sz (by simp), fun p20 H20 hp20 g20 h20 => ?_⟩
  refine ⟨p13, p20, _, _, rfl, rfl, ((((((((g14 none).trans g15).trans g16).trans (g17 none)).trans (g18 none)).trans (g19 none)).trans (g20 none)).all _ _ h13), h20, by simp, fun p21 H21 hp21 g21 h21 => ?_⟩
  have n21 := ((G.hand (((((((((((((((((((g1.trans (g2 _)).trans g3.up).trans (g4 _)).trans g5).trans (g6 _)).trans g7.up).trans (g8 _)).trans g9.up).trans g10.up).trans g11.up).trans (g12 _)).trans (g13 _)).trans (g14 _)).trans g15.up).trans g16.up).trans (g17 _)).trans (g18 _)).trans (g19 _)).trans (g20 _)) (hd, c) rfl hh)).ne hp21
  have A21 : Anys a.c_Program (hd, c) H21 ((List.replicate (4 : Int).toNat [V.ref p11]).flatten ++ [.ref p15, .ref p16, .ref p17, x0, .ref p18, .non, .ref p19]) :=
    Anys.app (Anys.rep (Anys.one (U11.n ((((((((((g12 none).trans (g13 none)).trans (g14 none)).trans g15).trans g16).trans (g17 none)).trans (g18 none)).trans (g19 none)).trans (g20 none)).trans (g21 none)))) 4) (Any.cons ⟨_, .tup ((((((g16.trans (g17 none)).trans (g18 none)).trans (g19 none)).trans (g20 none)).trans (g21 none)).tups _ _ r15) ((AX.g ((((((((((((((((((((g1.trans (g2 _)).trans g3.up).trans (g4 _)).trans g5).trans (g6 _)).trans g7.up).trans (g8 _)).trans g9.up).trans g10.up).trans g11.up).trans (g12 _)).trans (g13 _)).trans (g14 _)).trans g15.up).trans g16.up).trans (g17 _)).trans (g18 _)).trans (g19 _)).trans (g20 _)).trans (g21 _)) OH.s).choose_spec.app (.cons (.int _) .nil))⟩ (Any.cons ⟨_, .tup ((((((g17 none).trans (g18 none)).trans (g19 none)).trans (g20 none)).trans (g21 none)).tups _ _ r16) ((AX.g ((((((((((((((((((((g1.trans (g2 _)).trans g3.up).trans (g4 _)).trans g5).trans (g6 _)).trans g7.up).trans (g8 _)).trans g9.up).trans g10.up).trans g11.up).trans (g12 _)).trans (g13 _)).trans (g14 _)).trans g15.up).trans g16.up).trans (g17 _)).trans (g18 _)).trans (g19 _)).trans (g20 _)).trans (g21 _)) OH.s).cut none (some (-1))).choose_spec⟩ (Any.cons ⟨_, ab_lst n17 (((((g18 none).trans (g19 none)).trans (g20 none)).trans (g21 none)).all _ _ h17)⟩ (Any.cons ⟨_, (ax0.g ((((((((((((((((((((g1.trans (g2 _)).trans g3.up).trans (g4 _)).trans g5).trans (g6 _)).trans g7.up).trans (g8 _)).trans g9.up).trans g10.up).trans g11.up).trans (g12 _)).trans (g13 _)).trans (g14 _)).trans g15.up).trans g16.up).trans (g17 _)).trans (g18 _)).trans (g19 _)).trans (g20 _)).trans (g21 _)) OH.s)⟩ (Any.cons ⟨_, .tup (.inl ((((g19 none).trans (g20 none)).trans (g21 none)).all _ _ h18)) .nil⟩ (Any.cons ⟨_, .non⟩ (Any.cons ⟨_, ab_dK n19 (((g20 none).trans (g21 none)).all _ _ h19)⟩ Anys.nil)))))))
  obtain ⟨L21, eL, ln21⟩ : ∃ L : List V, L = (List.replicate (4 : Int).toNat [V.ref p11]).flatten ++ [.ref p15, .ref p16, .ref p17, x0, .ref p18, .non, .ref p19] ∧ L.length = 11 := ⟨_, rfl, rfl⟩
  rw [← eL] at A21 h21
  clear eL
  walk_at "ws"
  refine ⟨hd, c, 10, rfl, (G.hand ((((((((((((((((((((g1.trans (g2 _)).trans g3.up).trans (g4 _)).trans g5).trans (g6 _)).trans g7.up).trans (g8 _)).trans g9.up).trans g10.up).trans g11.up).trans (g12 _)).trans (g13 _)).trans (g14 _)).trans g15.up).trans g16.up).trans (g17 _)).trans (g18 _)).trans (g19 _)).trans (g20 _)).trans (g21 _)) (hd, c) rfl hh), by decide, by decide, fun y22 H22 y022 y122 g22 hh22 => ?_⟩
  obtain ⟨v22, tv22, ev22, av22⟩ := Anys.at (A6.g (((((((((((((((g7.up.trans (g8 _)).trans g9.up).trans g10.up).trans g11.up).trans (g12 _)).trans (g13 _)).trans (g14 _)).trans g15.up).trans g16.up).trans (g17 _)).trans (g18 _)).trans (g19 _)).trans (g20 _)).trans (g21 _)).trans g22) OH.s) y022 (by rw [ln6]; exact y122)
  refine r_ixL (SqL.of (G.keep (((((((((((((((g7.up.trans (g8 _)).trans g9.up).trans g10.up).trans g11.up).trans (g12 _)).trans (g13 _)).trans (g14 _)).trans g15.up).trans g16.up).trans (g17 _)).trans (g18 _)).trans (g19 _)).trans (g20 _)).trans (g21 _)).trans g22) p6 _ (fun q e => by cases e; exact n6) h6)) ev22 ?_
  walk_at "ws"
  refine ⟨sz (by simp), fun p23 H23 hp23 g23 h23 => ?_⟩
  walk_at "ws"
  refine ⟨rp, xs, rfl, (((((((((((((((((((((((g1.trans (g2 _)).trans g3.up).trans (g4 _)).trans g5).trans (g6 _)).trans g7.up).trans (g8 _)).trans g9.up).trans g10.up).trans g11.up).trans (g12 _)).trans (g13 _)).trans (g14 _)).trans g15.up).trans g16.up).trans (g17 _)).trans (g18 _)).trans (g19 _)).trans (g20 _)).trans (g21 _)).trans g22).trans (g23 _)).tups _ _ rr), fun p24 H24 gg24 r24 => ?_⟩
  have g24 := gg24 none
  have c1_24 := cut_le xs (some 1) none
  refine ⟨p23, p24, _, _, rfl, rfl, (g24.tups _ _ (.inl h23)), r24, by simp only [List.length_append, List.length_singleton]; omega, fun p25 H25 gg25 r25 => ?_⟩
  have g25 := gg25 none
  walk_at "ws"
  have U25 : Any a.c_Program (hd, c) H25 (.ref p25) := ⟨_, .tup r25 ((AbAll.cons (av22.n (((g23 none).trans g24).trans g25)) .nil).app ((AX.g ((((((((((((((((((((((((g1.trans (g2 _)).trans g3.up).trans (g4 _)).trans g5).trans (g6 _)).trans g7.up).trans (g8 _)).trans g9.up).trans g10.up).trans g11.up).trans (g12 _)).trans (g13 _)).trans (g14 _)).trans g15.up).trans g16.up).trans (g17 _)).trans (g18 _)).trans (g19 _)).trans (g20 _)).trans (g21 _)).trans g22).trans (g23 _)).trans g24.up).trans g25.up) OH.s).cut (some 1) none).choose_spec)⟩
  refine ⟨hd, c, 10, rfl, (G.hand ((((((((((((((((((((((((g1.trans (g2 _)).trans g3.up).trans (g4 _)).trans g5).trans (g6 _)).trans g7.up).trans (g8 _)).trans g9.up).trans g10.up).trans g11.up).trans (g12 _)).trans (g13 _)).trans (g14 _)).trans g15.up).trans g16.up).trans (g17 _)).trans (g18 _)).trans (g19 _)).trans (g20 _)).trans (g21 _)).trans g22).trans (g23 _)).trans g24.up).trans g25.up) (hd, c) rfl hh), by decide, by decide, fun y26 H26 y026 y126 g26 hh26 => ?_⟩
  obtain ⟨v26, tv26, ev26, av26⟩ := Anys.at (A6.g (((((((((((((((((((g7.up.trans (g8 _)).trans g9.up).trans g10.up).trans g11.up).trans (g12 _)).trans (g13 _)).trans (g14 _)).trans g15.up).trans g16.up).trans (g17 _)).trans (g18 _)).trans (g19 _)).trans (g20 _)).trans (g21 _)).trans g22).trans (g23 _)).trans g24.up).trans g25.up).trans g26) OH.s) y026 (by rw [ln6]; exact y126)
  refine r_ixL (SqL.of (G.keep (((((((((((((((((((g7.up.trans (g8 _)).trans g9.up).trans g10.up).trans g11.up).trans (g12 _)).trans (g13 _)).trans (g14 _)).trans g15.up).trans g16.up).trans (g17 _)).trans (g18 _)).trans (g19 _)).trans (g20 _)).trans (g21 _)).trans g22).trans (g23 _)).trans g24.up).trans g25.up).trans g26) p6 _ (fun q e => by cases e; exact n6) h6)) ev26 ?_
  walk_at "ws"
  refine ⟨sz (by simp), fun p27 H27 hp27 g27 h27 => ?_⟩
  walk_at "ws"
  refine ⟨rp, xs, rfl, (((((((((((((((((((((((((((g1.trans (g2 _)).trans g3.up).trans (g4 _)).trans g5).trans (g6 _)).trans g7.up).trans (g8 _)).trans g9.up).trans g10.up).trans g11.up).trans (g12 _)).trans (g13 _)).trans (g14 _)).trans g15.up).trans g16.up).trans (g17 _)).trans (g18 _)).trans (g19 _)).trans (g20 _)).trans (g21 _)).trans g22).trans (g23 _)).trans g24.up).trans g25.up).trans g26).trans (g27 _)).tups _ _ rr), fun p28 H28 gg28 r28 => ?_⟩
  have g28 := gg28 none
  have c1_28 := cut_le xs (some 1) none
  refine ⟨p27, p28, _, _, rfl, rfl, (g28.tups _ _ (.inl h27)), r28, by simp only [List.length_append, List.length_singleton]; omega, fun p29 H29 gg29 r29 => ?_⟩
  have g29 := gg29 none
  walk_at "ws"
  have U29 : Any a.c_Program (hd, c) H29 (.ref p29) := ⟨_, .tup r29 ((AbAll.cons (av26.n (((g27 none).trans g28).trans g29)) .nil).app ((AX.g ((((((((((((((((((((((((((((g1.trans (g2 _)).trans g3.up).trans (g4 _)).trans g5).trans (g6 _)).trans g7.up).trans (g8 _)).trans g9.up).trans g10.up).trans g11.up).trans (g12 _)).trans (g13 _)).trans (g14 _)).trans g15.up).trans g16.up).trans (g17 _)).trans (g18 _)).trans (g19 _)).trans (g20 _)).trans (g21 _)).trans g22).trans (g23 _)).trans g24.up).trans g25.up).trans g26).trans (g27 _)).trans g28.up).trans g29.up) OH.s).cut (some 1) none).choose_spec)⟩
  have hq29 := (G.hand ((((((((((((((((((((((((((((g1.trans (g2 _)).trans g3.up).trans (g4 _)).trans g5).trans (g6 _)).trans g7.up).trans (g8 _)).trans g9.up).trans g10.up).trans g11.up).trans (g12 _)).trans (g13 _)).trans (g14 _)).trans g15.up).trans g16.up).trans (g17 _)).trans (g18 _)).trans (g19 _)).trans (g20 _)).trans (g21 _)).trans g22).trans (g23 _)).trans g24.up).trans g25.up).trans g26).trans (g27 _)).trans g28.up).trans g29.up) (hd, c) rfl hh)
  refine ⟨rfl, fun p30 ys30 H30 hp30 g30 h30 => ?_⟩
  have n30 := hq29.ne hp30
  walk_at "ws"
  refine ⟨sz (by simp), fun p31 H31 hp31 g31 h31 => ?_⟩
  refine ⟨p21, p31, _, _, rfl, rfl, (G.keep (((((((((g22.trans (g23 _)).trans g24.up).trans g25.up).trans g26).trans (g27 _)).trans g28.up).trans g29.up).trans g30.up).trans (g31 _)) p21 _ (fun q e => by cases e; exact n21) h21), h31, by rw [ln21]; simp, fun p32 H32 hp32 g32 h32 => ?_⟩
  have n32 := ((G.hand ((((((((((((((((((((((((((((((g1.trans (g2 _)).trans g3.up).trans (g4 _)).trans g5).trans (g6 _)).trans g7.up).trans (g8 _)).trans g9.up).trans g10.up).trans g11.up).trans (g12 _)).trans (g13 _)).trans (g14 _)).trans g15.up).trans g16.up).trans (g17 _)).trans (g18 _)).trans (g19 _)).trans (g20 _)).trans (g21 _)).trans g22).trans (g23 _)).trans g24.up).trans g25.up).trans g26).trans (g27 _)).trans g28.up).trans g29.up).trans g30.up).trans (g31 _)) (hd, c) rfl hh)).ne hp32
  have A32 : Anys a.c_Program (hd, c) H32 (L21 ++ [.ref p25, .ref p29, .ref p30]) := Anys.app (A21.g ((((((((((g22.trans (g23 _)).trans g24.up).trans g25.up).trans g26).trans (g27 _)).trans g28.up).trans g29.up).trans g30.up).trans (g31 _)).trans (g32 _)) OH.s) (Any.cons (U25.g ((((((g26.trans (g27 _)).trans g28.up).trans g29.up).trans g30.up).trans (g31 _)).trans (g32 _)) OH.s) (Any.cons (U29.n ((g30.trans (g31 none)).trans (g32 none))) (Any.cons ⟨_, ab_lst n30 (((g31 none).trans (g32 none)).all _ _ h30)⟩ Anys.nil)))
  walk_at "ws"
  refine ⟨hd, c, 14, rfl, (G.hand (((((((((((((((((((((((((((((((g1.trans (g2 _)).trans g3.up).trans (g4 _)).trans g5).trans (g6 _)).trans g7.up).trans (g8 _)).trans g9.up).trans g10.up).trans g11.up).trans (g12 _)).trans (g13 _)).trans (g14 _)).trans g15.up).trans g16.up).trans (g17 _)).trans (g18 _)).trans (g19 _)).trans (g20 _)).trans (g21 _)).trans g22).trans (g23 _)).trans g24.up).trans g25.up).trans g26).trans (g27 _)).trans g28.up).trans g29.up).trans g30.up).trans (g31 _)).trans (g32 _)) (hd, c) rfl hh), by decide, by decide, fun y H33 y0 y1 g33 hh33 => ?_⟩
  obtain ⟨v, t, ev, av⟩ := Anys.at (A32.g g33 OH.s) y0 (by rw [List.length_append, ln21]; exact y1)
  refine r_ixL (SqL.of (G.keep g33 p32 _ (fun q e => by cases e; exact n32) h32)) ev ?_
  exact k v t H33 ((((((((((((((((((((((((((((((((g1.trans (g2 _)).trans g3.up).trans (g4 _)).trans g5).trans (g6 _)).trans g7.up).trans (g8 _)).trans g9.up).trans g10.up).trans g11.up).trans (g12 _)).trans (g13 _)).trans (g14 _)).trans g15.up).trans g16.up).trans (g17 _)).trans (g18 _)).trans (g19 _)).trans (g20 _)).trans (g21 _)).trans g22).trans (g23 _)).trans g24.up).trans g25.up).trans g26).trans (g27 _)).trans g28.up).trans g29.up).trans g30.up).trans (g31 _)).trans (g32 _)).trans g33) hh33 av

end
end Mine
/-! ## K16 -/


namespace Mine
section
variable {P : Program} {w : World} {K : PySem.W.Frag} {mg : Str → Option Value} {base : Heap} {a : Ads}

/-! ### owners, codes, bent -/
def rRepN (K : PySem.W.Frag) : R2 := fun x y H Q => ∃ (l : Addr) (k : Int) (xs : List V), x = .ref l ∧ y = .int k ∧ SqT K H l xs ∧ xs ≠ [] ∧ 2 ≤ k ∧ k ≤ 1000 ∧ xs.length ≤ 1000 ∧ New H (.tup (List.replicate k.toNat xs).flatten) fun p H2 => Q (.ref p) H2
theorem op_repN {X : Cx} : OpR X (binaryOp .Mult) (rRepN X.K) := OpR.weak op_repT fun x y H Q ⟨l, k, xs, e1, e2, h1, h2, h3, h4, h5, q⟩ => ⟨l, k, xs, e1, e2, h1, h2, h3, h4, h5, fun p hp => q.go hp⟩
def sp__law_bent_owners (C : Addr) : Sp := fun vs H Q _ => ∃ (hd c op : Addr) (os : List Int) (m : Int), vs = [.ref hd, .ref op, .int m] ∧ Hand H hd c ∧ Rd H op (.tup (os.map V.int)) ∧ 1 ≤ os.length ∧ os.length ≤ 8 ∧
  ∀ v t H', G (some (hd, c)) H H' → Hand H' hd c → Ab C (hd, c) H' v t → Q v H'
theorem ok__law_bent_owners (T : Txt w K mg a) : FnOk P w K mg base CX0 2 a.f__law_bent_owners a.d__law_bent_owners P__law_bent_owners (sp__law_bent_owners a.c_Program) := by
  refine T.F__law_bent_owners.ok sc__law_bent_owners (fun vs H Q E h => by obtain ⟨hd, c, op, os, m, rfl, _⟩ := h; rfl) (fun cdv A outer s H0 vs Q E hr h => ?_)
  obtain ⟨hd, c, op, os, m, rfl, hh, rr, l1, l4, k⟩ := h
  have AX : ∀ H : Hp, Anys a.c_Program (hd, c) H (os.map V.int) := fun H => ⟨_, ab_ints os⟩
  have G__law_draw : FnOk P w K mg base CX0 1 a.f__law_draw a.d__law_draw P__law_draw sp__law_draw := ok__law_draw T
  have G__law_deep : FnOk P w K mg base CX0 1 a.f__law_deep a.d__law_deep P__law_deep sp__law_deep := ok__law_deep T
  refine ⟨_, (pss_cons (ps_set (i := 3) sc__law_bent_owners.nd rfl (Or.inl rfl) (pe_call (G__law_draw) (hr.mono (by omega)) rfl T.m__law_draw T.F__law_draw.kp T.b__law_draw .nil pass0 (pa_cons (pv 0) (pa_cons (pe_callB call_len_seq (by rfl) T.n_len (by decide +kernel) (pa_cons (pv 1) pa_nil)) pa_nil))))
  (pss_cons (ps_set (i := 4) sc__law_bent_owners.nd rfl (Or.inl rfl) (pe_ix ix_list (pe_lstN (pa_cons (pv 2) (pa_cons (pe_un un_neg pe_int) (pa_cons pe_bl (pa_cons pe_bl (pa_cons pe_non (pa_cons pe_str (pa_cons (pe_tupN (pa_cons pe_int pa_nil)) (pa_cons pe_int (pa_cons (pe_op op_sub (pv 2) pe_int) (pa_cons (pe_call0 (G__law_deep) (hr.mono (by omega)) rfl T.m__law_deep T.F__law_deep.kp T.b__law_deep .nil pass0) pa_nil))))))))))) (pe_call (G__law_draw) (hr.mono (by omega)) rfl T.m__law_draw T.F__law_draw.kp T.b__law_draw .nil pass0 (pa_cons (pv 0) (pa_cons pe_int pa_nil))) (fun _ _ => rfl)))
  (pss_cons (ps_set (i := 5) sc__law_bent_owners.nd rfl (Or.inl rfl) (pe_op op_catLN (pe_op op_repL (pe_lstN (pa_cons (pe_op op_catR (pe_op op_catR (pe_slice sl_tupR (pv 1) po_none (po_some (pv 3))) (pe_tupN (pa_cons (pv 4) pa_nil))) (pe_slice sl_tupR (pv 1) (po_some (pe_op op_add (pv 3) pe_int)) po_none)) pa_nil)) pe_int) (pe_lstN (pa_cons (pe_callTy call_listN (by rfl) T.n_list (by decide +kernel) (pa_cons (pv 1) pa_nil)) (pa_cons (pe_tupN pa_nil) (pa_cons pe_non (pa_cons (pe_op op_repN (pe_tupN (pa_cons pe_int pa_nil)) pe_int) (pa_cons (pe_op op_repN (pe_tupN (pa_cons pe_int pa_nil)) pe_int) (pa_cons pe_str (pa_cons pe_dnewK (pa_cons (pe_slice sl_tupR (pv 1) po_none (po_some pe_int)) pa_nil)))))))))))
  (pss_one (ps_ret (pe_ix ix_list (pv 5) (pe_call (G__law_draw) (hr.mono (by omega)) rfl T.m__law_draw T.F__law_draw.kp T.b__law_draw .nil pass0 (pa_cons (pv 0) (pa_cons pe_int pa_nil))) (fun _ _ => rfl))))))), ?_⟩
  walk_at "ws"
  refine ⟨op, os.map V.int, rfl, .inr (.inl rr), ?_⟩
  rw [List.length_map]
  walk_at "ws"
  refine ⟨hd, c, (os.length : Int), rfl, hh, by omega, by omega, fun at_ H1 a0 a1 g1 hh1 => ?_⟩
  walk_at "ws"
  refine ⟨sz (by simp), fun p2 H2 hp2 g2 h2 => ?_⟩
  walk_at "ws"
  have hq2 := (G.hand (g1.trans (g2 _)) (hd, c) rfl hh)
  refine ⟨rfl, fun p3 ys3 H3 hp3 g3 h3 => ?_⟩
  have n3 := hq2.ne hp3
  walk_at "ws"
  have hq3 := (G.hand ((g1.trans (g2 _)).trans g3.up) (hd, c) rfl hh)
  refine ⟨sz (by simp), fun p4 H4 hp4 g4 h4 => ?_⟩
  have n4 := hq3.ne hp4
  have A4 : Anys a.c_Program (hd, c) H4 [.int m, .int (-1), .bl true, .bl false, .non, .str "0", .ref p2, .int 0, .int (m - 1), .ref p3] :=
    ⟨_, .cons (.int _) (.cons (.int _) (.cons (.bl _) (.cons (.bl _) (.cons .non (.cons (.str _) (.cons (.tup (.inl ((g3.trans (g4 none)).all _ _ h2)) (.cons (.int _) .nil)) (.cons (.int _) (.cons (.int _) (.cons (ab_lst n3 ((g4 none).all _ _ h3)) .nil)))))))))⟩
  obtain ⟨L4, eL, ln4⟩ : ∃ L : List V, L = [.int m, .int (-1), .bl true, .bl false, .non, .str "0", .ref p2, .int 0, .int (m - 1), .ref p3] ∧ L.length = 10 := ⟨_, rfl, rfl⟩
  rw [← eL] at A4 h4
  clear eL
  walk_at "ws"
  refine ⟨hd, c, 10, rfl, (G.hand (((g1.trans (g2 _)).trans g3.up).trans (g4 _)) (hd, c) rfl hh), by decide, by decide, fun z H5 z0 z1 g5 hh5 => ?_⟩
  obtain ⟨pt, tpt, e1, apt⟩ := Anys.at (A4.g g5 OH.s) z0 (by rw [ln4]; exact z1)
  refine r_ixL (SqL.of (G.keep g5 p4 _ (fun q e => by cases e; exact n4) h4)) e1 ?_
  walk_at "ws"
  refine ⟨op, os.map V.int, rfl, (((((g1.trans (g2 _)).trans g3.up).trans (g4 _)).trans g5).tups _ _ rr), fun p6 H6 gg6 r6 => ?_⟩
  have g6 := gg6 none
  have c1 := cut_le (os.map V.int) none (some at_)
  rw [List.length_map] at c1
  walk_at "ws"
  refine ⟨sz (by simp), fun p7 H7 hp7 g7 h7 => ?_⟩
  refine ⟨p6, p7, _, _, rfl, rfl, ((g7 none).tups _ _ r6), (.inl h7), by simp; omega, fun p8 H8 gg8 r8 => ?_⟩
  have g8 := gg8 none
  walk_at "ws"
  refine ⟨op, os.map V.int, rfl, ((((((((g1.trans (g2 _)).trans g3.up).trans (g4 _)).trans g5).trans g6.up).trans (g7 _)).trans g8.up).tups _ _ rr), fun p9 H9 gg9 r9 => ?_⟩
  have g9 := gg9 none
  have c2 := cut_le (os.map V.int) (some (at_ + 1)) none
  rw [List.length_map] at c2
  refine ⟨p8, p9, _, _, rfl, rfl, (g9.tups _ _ r8), r9, by simp only [List.length_append, List.length_singleton]; omega, fun p10 H10 gg10 r10 => ?_⟩
  have g10 := gg10 none
  walk_at "ws"
  have U10 : Any a.c_Program (hd, c) H10 (.ref p10) := ⟨_, .tup r10 ((((AX H10).cut none (some at_)).choose_spec.app (.cons (apt.n ((((g6.trans (g7 none)).trans g8).trans g9).trans g10)) .nil)).app ((AX H10).cut (some (at_ + 1)) none).choose_spec)⟩
  refine ⟨sz (by simp), fun p11 H11 hp11 g11 h11 => ?_⟩
  walk_at "ws"
  refine ⟨p11, 3, _, rfl, rfl, h11, by decide, by decide, by simp, fun p12 H12 hp12 g12 h12 => ?_⟩
  walk_at "ws"
  have hq12 := (G.hand (((((((((((g1.trans (g2 _)).trans g3.up).trans (g4 _)).trans g5).trans g6.up).trans (g7 _)).trans g8.up).trans g9.up).trans g10.up).trans (g11 _)).trans (g12 _)) (hd, c) rfl hh)
  refine ⟨op, os.map V.int, rfl, .inr (.inl ((((((((((((g1.trans (g2 _)).trans g3.up).trans (g4 _)).trans g5).trans g6.up).trans (g7 _)).trans g8.up).trans g9.up).trans g10.up).trans (g11 _)).trans (g12 _)).tups _ _ rr)), fun p13 H13 hp13 g13 h13 => ?_⟩
  have n13 := hq12.ne hp13
  walk_at "ws"
  refine ⟨sz (by simp), fun p14 H14 hp14 g14 h14 => ?_⟩
  walk_at "ws"
  refine ⟨sz (by simp), fun p15 H15 hp15 g15 h15 => ?_⟩
  walk_at "ws"
  refine ⟨p15, 9, [.int 0], rfl, rfl, SqT.of h15, by simp, by decide, by decide, by simp, fun p16 H16 hp16 g16 h16 => ?_⟩
  walk_at "ws"
  refine ⟨sz (by simp), fun p17 H17 hp17 g17 h17 => ?_⟩
  walk_at "ws"
  refine ⟨p17, 8, [.int 0], rfl, rfl, SqT.of h17, by simp, by decide, by decide, by simp, fun p18 H18 hp18 g18 h18 => ?_⟩
  walk_at "ws"
  have hq18 := (G.hand (((((((((((((((((g1.trans (g2 _)).trans g3.up).trans (g4 _)).trans g5).trans g6.up).trans (g7 _)).trans g8.up).trans g9.up).trans g10.up).trans (g11 _)).trans (g12 _)).trans (g13 _)).trans (g14 _)).trans (g15 _)).trans (g16 _)).trans (g17 _)).trans (g18 _)) (hd, c) rfl hh)
  refine w_dnew (o := none) fun p19 H19 hp19 g19 h19 => ?_
  have n19 := hq18.ne hp19
  walk_at "ws"
  refine ⟨op, os.map V.int, rfl, (((((((((((((((((((g1.trans (g2 _)).trans g3.up).trans (g4 _)).trans g5).trans g6.up).trans (g7 _)).trans g8.up).trans g9.up).trans g10.up).trans (g11 _)).trans (g12 _)).trans (g13 _)).trans (g14 _)).trans (g15 _)).trans (g16 _)).trans (g17 _)).trans (g18 _)).trans (g19 _)).tups _ _ rr), fun p20 H20 gg20 r20 => ?_⟩
  have g20 := gg20 none
  walk_at "ws"
  refine ⟨sz (by simp), fun p21 H21 hp21 g21 h21 => ?_⟩
  have hq21 := (G.hand ((((((((((((((((((((g1.trans (g2 _)).trans g3.up).trans (g4 _)).trans g5).trans g6.up).trans (g7 _)).trans g8.up).trans g9.up).trans g10.up).trans (g11 _)).trans (g12 _)).trans (g13 _)).trans (g14 _)).trans (g15 _)).trans (g16 _)).trans (g17 _)).trans (g18 _)).trans (g19 _)).trans g20.up).trans (g21 _)) (hd, c) rfl hh)
  refine ⟨p12, p21, _, _, rfl, rfl, ((((((((((g13 none).trans (g14 none)).trans (g15 none)).trans (g16 none)).trans (g17 none)).trans (g18 none)).trans (g19 none)).trans g20).trans (g21 none)).all _ _ h12), h21, by simp, fun p22 H22 hp22 g22 h22 => ?_⟩
  have n22 := hq21.ne hp22
  have A22 : Anys a.c_Program (hd, c) H22 ((List.replicate (3 : Int).toNat [V.ref p10]).flatten ++ [.ref p13, .ref p14, .non, .ref p16, .ref p18, .str "owners", .ref p19, .ref p20]) :=
    Anys.app (Anys.rep (Anys.one (U10.n ((((((((((((g11 none).trans (g12 none)).trans (g13 none)).trans (g14 none)).trans (g15 none)).trans (g16 none)).trans (g17 none)).trans (g18 none)).trans (g19 none)).trans g20).trans (g21 none)).trans (g22 none)))) 3) (Any.cons ⟨_, ab_lst n13 ((((((((((g14 none).trans (g15 none)).trans (g16 none)).trans (g17 none)).trans (g18 none)).trans (g19 none)).trans g20).trans (g21 none)).trans (g22 none)).all _ _ h13)⟩ (Any.cons ⟨_, .tup (.inl (((((((((g15 none).trans (g16 none)).trans (g17 none)).trans (g18 none)).trans (g19 none)).trans g20).trans (g21 none)).trans (g22 none)).all _ _ h14)) .nil⟩ (Any.cons ⟨_, .non⟩ (Any.cons ⟨_, .tup (.inl (((((((g17 none).trans (g18 none)).trans (g19 none)).trans g20).trans (g21 none)).trans (g22 none)).all _ _ h16)) (ab_rep (.cons (.int 0) .nil) _)⟩ (Any.cons ⟨_, .tup (.inl (((((g19 none).trans g20).trans (g21 none)).trans (g22 none)).all _ _ h18)) (ab_rep (.cons (.int 0) .nil) _)⟩ (Any.cons ⟨_, .str _⟩ (Any.cons ⟨_, ab_dK n19 (((g20.trans (g21 none)).trans (g22 none)).all _ _ h19)⟩ (Any.cons ⟨_, .tup (((g21 none).trans (g22 none)).tups _ _ r20) ((AX _).cut none (some 1)).choose_spec⟩ Anys.nil))))))))
  obtain ⟨L22, eL, ln22⟩ : ∃ L : List V, L = (List.replicate (3 : Int).toNat [V.ref p10]).flatten ++ [.ref p13, .ref p14, .non, .ref p16, .ref p18, .str "owners", .ref p19, .ref p20] ∧ L.length = 11 := ⟨_, rfl, rfl⟩
  rw [← eL] at A22 h22
  clear eL
  walk_at "ws"
  refine ⟨hd, c, 11, rfl, (G.hand (((((((((((((((((((((g1.trans (g2 _)).trans g3.up).trans (g4 _)).trans g5).trans g6.up).trans (g7 _)).trans g8.up).trans g9.up).trans g10.up).trans (g11 _)).trans (g12 _)).trans (g13 _)).trans (g14 _)).trans (g15 _)).trans (g16 _)).trans (g17 _)).trans (g18 _)).trans (g19 _)).trans g20.up).trans (g21 _)).trans (g22 _)) (hd, c) rfl hh), by decide, by decide, fun y H23 y0 y1 g23 hh23 => ?_⟩
  obtain ⟨v, t, ev, av⟩ := Anys.at (A22.g g23 OH.s) y0 (by rw [ln22]; exact y1)
  refine r_ixL (SqL.of (G.keep g23 p22 _ (fun q e => by cases e; exact n22) h22)) ev ?_
  exact k v t H23 ((((((((((((((((((((((g1.trans (g2 _)).trans g3.up).trans (g4 _)).trans g5).trans g6.up).trans (g7 _)).trans g8.up).trans g9.up).trans g10.up).trans (g11 _)).trans (g12 _)).trans (g13 _)).trans (g14 _)).trans (g15 _)).trans (g16 _)).trans (g17 _)).trans (g18 _)).trans (g19 _)).trans g20.up).trans (g21 _)).trans (g22 _)).trans g23) hh23 av
def sp__law_bent_codes (C : Addr) : Sp := fun vs H Q _ => ∃ (hd c cp : Addr) (xs : List V) (os : List Int) (cs : List Tg), vs = [.ref hd, .ref cp] ∧ Hand H hd c ∧ Rd H cp (.tup xs) ∧ AbAll C (hd, c) H xs cs ∧ IsProg os cs ∧
  ∀ v t H', G (some (hd, c)) H H' → Hand H' hd c → Ab C (hd, c) H' v t → Q v H'
theorem ok__law_bent_codes (T : Txt w K mg a) : FnOk P w K mg base CX0 3 a.f__law_bent_codes a.d__law_bent_codes P__law_bent_codes (sp__law_bent_codes a.c_Program) := by
  refine T.F__law_bent_codes.ok sc__law_bent_codes (fun vs H Q E h => by obtain ⟨hd, c, cp, xs, os, cs, rfl, _⟩ := h; rfl) (fun cdv A outer s H0 vs Q E hr h => ?_)
  obtain ⟨hd, c, cp, xs, os, cs, rfl, hh, rr, ax, pr, k⟩ := h
  have lx := ax.length
  have l1 : 1 ≤ xs.length := by rw [lx]; exact pr.c1
  have l7 : xs.length ≤ 7 := by rw [lx]; exact pr.c7
  have G__law_draw : FnOk P w K mg base CX0 1 a.f__law_draw a.d__law_draw P__law_draw sp__law_draw := ok__law_draw T
  have G__law_deep : FnOk P w K mg base CX0 1 a.f__law_deep a.d__law_deep P__law_deep sp__law_deep := ok__law_deep T
  have G__law_bent_row : FnOk P w K mg base CX0 2 a.f__law_bent_row a.d__law_bent_row P__law_bent_row (sp__law_bent_row a.c_Program) := ok__law_bent_row T
  refine ⟨_, (pss_cons (ps_set (i := 2) sc__law_bent_codes.nd rfl (Or.inl rfl) (pe_call (G__law_draw) (hr.mono (by omega)) rfl T.m__law_draw T.F__law_draw.kp T.b__law_draw .nil pass0 (pa_cons (pv 0) (pa_cons (pe_callB call_len_seq (by rfl) T.n_len (by decide +kernel) (pa_cons (pv 1) pa_nil)) pa_nil))))
  (pss_cons (ps_set (i := 3) sc__law_bent_codes.nd rfl (Or.inl rfl) (pe_ix ix_tup (pv 1) (pv 2) (fun _ _ => rfl)))
  (pss_cons (ps_if (L2.PW.pt (pw_and (pt_cmpR op_gt (pe_callB call_len_seq (by rfl) T.n_len (by decide +kernel) (pa_cons (pv 3) pa_nil)) pe_int (nomark _)) (pw_and1 (pt_cmpR op_gt (pe_call (G__law_draw) (hr.mono (by omega)) rfl T.m__law_draw T.F__law_draw.kp T.b__law_draw .nil pass0 (pa_cons (pv 0) (pa_cons pe_int pa_nil))) pe_int (nomark _)))))
    (pss_cons (ps_set (i := 4) sc__law_bent_codes.nd rfl (Or.inl rfl) (pe_call (G__law_draw) (hr.mono (by omega)) rfl T.m__law_draw T.F__law_draw.kp T.b__law_draw .nil pass0 (pa_cons (pv 0) (pa_cons (pe_callB call_len_seq (by rfl) T.n_len (by decide +kernel) (pa_cons (pv 3) pa_nil)) pa_nil))))
  (pss_cons (ps_set (i := 3) sc__law_bent_codes.nd rfl (Or.inl rfl) (pe_op op_catR (pe_op op_catR (pe_slice sl_tupR (pv 3) po_none (po_some (pv 4))) (pe_tupN (pa_cons (pe_call (G__law_bent_row) (hr.mono (by omega)) rfl T.m__law_bent_row T.F__law_bent_row.kp T.b__law_bent_row .nil pass0 (pa_cons (pv 0) (pa_cons (pe_ix ix_tup (pv 3) (pv 4) (fun _ _ => rfl)) (pa_cons (pe_callB call_len_seq (by rfl) T.n_len (by decide +kernel) (pa_cons (pv 3) pa_nil)) pa_nil)))) pa_nil))) (pe_slice sl_tupR (pv 3) (po_some (pe_op op_add (pv 4) pe_int)) po_none)))
  (pss_one (ps_ret (pe_op op_catR (pe_op op_catR (pe_slice sl_tupR (pv 1) po_none (po_some (pv 2))) (pe_tupN (pa_cons (pv 3) pa_nil))) (pe_slice sl_tupR (pv 1) (po_some (pe_op op_add (pv 2) pe_int)) po_none))))))
    pss_nil)
  (pss_cons (ps_set (i := 5) sc__law_bent_codes.nd rfl (Or.inl rfl) (pe_ix ix_list (pe_lstN (pa_cons (pe_callTy call_listN (by rfl) T.n_list (by decide +kernel) (pa_cons (pv 3) pa_nil)) (pa_cons pe_non (pa_cons (pe_op op_repN (pe_tupN (pa_cons (pe_tupN (pa_cons pe_str (pa_cons pe_int pa_nil))) pa_nil)) pe_int) (pa_cons (pe_op op_repN (pe_tupN (pa_cons (pe_tupN (pa_cons pe_str pa_nil)) pa_nil)) pe_int) (pa_cons pe_str (pa_cons pe_dnewK (pa_cons (pe_op op_repN (pe_tupN (pa_cons (pe_tupN (pa_cons pe_str (pa_cons pe_int pa_nil))) pa_nil)) pe_int) (pa_cons (pe_call0 (G__law_deep) (hr.mono (by omega)) rfl T.m__law_deep T.F__law_deep.kp T.b__law_deep .nil pass0) pa_nil))))))))) (pe_call (G__law_draw) (hr.mono (by omega)) rfl T.m__law_draw T.F__law_draw.kp T.b__law_draw .nil pass0 (pa_cons (pv 0) (pa_cons pe_int pa_nil))) (fun _ _ => rfl)))
  (pss_cons (ps_set (i := 6) sc__law_bent_codes.nd rfl (Or.inl rfl) (pe_op op_catLN (pe_op op_repL (pe_lstN (pa_cons (pe_op op_catR (pe_op op_catR (pe_slice sl_tupR (pv 1) po_none (po_some (pv 2))) (pe_tupN (pa_cons (pv 5) pa_nil))) (pe_slice sl_tupR (pv 1) (po_some (pe_op op_add (pv 2) pe_int)) po_none)) pa_nil)) pe_int) (pe_lstN (pa_cons (pe_callTy call_listN (by rfl) T.n_list (by decide +kernel) (pa_cons (pv 1) pa_nil)) (pa_cons (pe_tupN pa_nil) (pa_cons pe_non (pa_cons (pe_op op_repN (pv 1) pe_int) (pa_cons pe_str (pa_cons (pe_call0 (G__law_deep) (hr.mono (by omega)) rfl T.m__law_deep T.F__law_deep.kp T.b__law_deep .nil pass0) pa_nil)))))))))
  (pss_one (ps_ret (pe_ix ix_list (pe_op op_catLN (pv 6) (pe_lstN (pa_cons (pe_slice sl_tupR (pv 1) (po_some pe_int) po_none) (pa_cons (pe_op op_catR (pv 1) (pe_tupN (pa_cons (pe_tupN pa_nil) pa_nil))) pa_nil)))) (pe_call (G__law_draw) (hr.mono (by omega)) rfl T.m__law_draw T.F__law_draw.kp T.b__law_draw .nil pass0 (pa_cons (pv 0) (pa_cons pe_int pa_nil))) (fun _ _ => rfl))))))))), ?_⟩
  walk_at "ws"
  refine ⟨cp, xs, rfl, .inr (.inl rr), ?_⟩
  walk_at "ws"
  refine ⟨hd, c, (xs.length : Int), rfl, hh, by omega, by omega, fun mm H1 a0 a1 g1 hh1 => ?_⟩
  walk_at "ws"
  obtain ⟨j, rfl⟩ : ∃ j : Nat, mm = (j : Int) := ⟨mm.toNat, by omega⟩
  have hj : j < cs.length := by omega
  obtain ⟨rs, ers, lrs, hrs⟩ := pr.ok j _ (List.getElem?_eq_getElem hj)
  obtain ⟨cv, hcv, acv⟩ := ax.get' (List.getElem?_eq_getElem hj)
  rw [ers] at acv
  obtain ⟨kp, kxs, rfl, kr, ka⟩ : ∃ kp kxs, cv = .ref kp ∧ Rd H0 kp (.tup kxs) ∧ AbAll a.c_Program (hd, c) H0 kxs rs := by
    cases acv with
    | tup r al => exact ⟨_, _, rfl, r, al⟩
  have lk := ka.length
  refine r_ixT (.inl (g1.tups _ _ rr)) (at_of (j := j) rfl hcv) ?_
  walk_at "wn"
  dsimp only
  refine w_seqM (fun σ H' => σ = [some (.ref hd), some (.ref cp), some (.int j), some (.ref kp), none, none, none] ∧ G (some (hd, c)) H1 H' ∧ Hand H' hd c) (fun N kN => ?_) ?_
  · walk_at "ws"
    refine ⟨kp, kxs, rfl, .inr (.inl (g1.tups _ _ kr)), ?_⟩
    rw [lk]
    walk_at "ws"
    refine w_ite (fun e => ?_) (fun e => ?_)
    rotate_left
    · walk_at "ws"
      exact kN _ _ ⟨rfl, G.refl, hh1⟩
    have l0 : 0 < rs.length := by simpa using e
    walk_at "ws"
    refine ⟨hd, c, 3, rfl, hh1, by decide, by decide, fun w H2 w0 w1 g2 hh2 => ?_⟩
    walk_at "ws"
    refine w_ite (fun e2 => ?_) (fun e2 => ?_)
    rotate_left
    · walk_at "ws"
      exact kN _ _ ⟨rfl, g2, hh2⟩
    walk_at "ws"
    refine ⟨kp, kxs, rfl, .inr (.inl ((g1.trans g2).tups _ _ kr)), ?_⟩
    rw [lk]
    walk_at "ws"
    refine ⟨hd, c, (rs.length : Int), rfl, hh2, by omega, by omega, fun at_ H3 b0 b1 g3 hh3 => ?_⟩
    obtain ⟨i, rfl⟩ : ∃ i : Nat, at_ = (i : Int) := ⟨at_.toNat, by omega⟩
    have hi : i < rs.length := by omega
    obtain ⟨rv, hrv, arv⟩ := ka.get' (List.getElem?_eq_getElem hi)
    obtain ⟨s_, us, eus, _, lus, _⟩ := rowT_is (hrs _ (List.getElem_mem hi))
    rw [eus] at arv
    obtain ⟨rp, rxs, rfl, rrd, rra⟩ : ∃ rp rxs, rv = .ref rp ∧ Rd H0 rp (.tup rxs) ∧ AbAll a.c_Program (hd, c) H0 rxs (.str s_ :: us) := by
      cases arv with
      | tup r al => exact ⟨_, _, rfl, r, al⟩
    have lrx := rra.length
    rw [List.length_cons] at lrx
    walk_at "ws"
    refine ⟨kp, kxs, rfl, (((g1.trans g2).trans g3).tups _ _ kr), fun p4 H4 gg4 r4 => ?_⟩
    have g4 := gg4 none
    have c1 := cut_le kxs none (some (i : Int))
    walk_at "ws"
    refine r_ixT (.inl ((((g1.trans g2).trans g3).trans g4.up).tups _ _ kr)) (at_of (j := i) rfl hrv) ?_
    walk_at "ws"
    refine ⟨kp, kxs, rfl, .inr (.inl ((((g1.trans g2).trans g3).trans g4.up).tups _ _ kr)), ?_⟩
    rw [lk]
    walk_at "ws"
    refine ⟨hd, c, rp, rxs, (rs.length : Int), rfl, (G.hand (((g1.trans g2).trans g3).trans g4.up) (hd, c) rfl hh), ((((g1.trans g2).trans g3).trans g4.up).tups _ _ rrd), ⟨_, (rra.g (((g1.trans g2).trans g3).trans g4.up) OH.s)⟩, by omega, by omega, fun bv bt H5 g5 hh5 ab5 => ?_⟩
    walk_at "ws"
    refine ⟨sz (by simp), fun p6 H6 hp6 g6 h6 => ?_⟩
    refine ⟨p4, p6, _, _, rfl, rfl, ((g5.trans (g6 _)).tups _ _ r4), (.inl h6), by simp; omega, fun p7 H7 gg7 r7 => ?_⟩
    have g7 := gg7 none
    walk_at "ws"
    refine ⟨kp, kxs, rfl, (((((((g1.trans g2).trans g3).trans g4.up).trans g5).trans (g6 _)).trans g7.up).tups _ _ kr), fun p8 H8 gg8 r8 => ?_⟩
    have g8 := gg8 none
    have c2 := cut_le kxs (some ((i : Int) + 1)) none
    refine ⟨p7, p8, _, _, rfl, rfl, (g8.tups _ _ r7), r8, by simp only [List.length_append, List.length_singleton]; omega, fun p9 H9 gg9 r9 => ?_⟩
    have g9 := gg9 none
    walk_at "ws"
    refine ⟨cp, xs, rfl, (((((((((g1.trans g2).trans g3).trans g4.up).trans g5).trans (g6 _)).trans g7.up).trans g8.up).trans g9.up).tups _ _ rr), fun p10 H10 gg10 r10 => ?_⟩
    have g10 := gg10 none
    have c3 := cut_le xs none (some (j : Int))
    walk_at "ws"
    refine ⟨sz (by simp), fun p11 H11 hp11 g11 h11 => ?_⟩
    refine ⟨p10, p11, _, _, rfl, rfl, ((g11 none).tups _ _ r10), (.inl h11), by simp; omega, fun p12 H12 gg12 r12 => ?_⟩
    have g12 := gg12 none
    walk_at "ws"
    refine ⟨cp, xs, rfl, ((((((((((((g1.trans g2).trans g3).trans g4.up).trans g5).trans (g6 _)).trans g7.up).trans g8.up).trans g9.up).trans g10.up).trans (g11 _)).trans g12.up).tups _ _ rr), fun p13 H13 gg13 r13 => ?_⟩
    have g13 := gg13 none
    have c4 := cut_le xs (some ((j : Int) + 1)) none
    refine ⟨p12, p13, _, _, rfl, rfl, (g13.tups _ _ r12), r13, by simp only [List.length_append, List.length_singleton]; omega, fun p14 H14 gg14 r14 => ?_⟩
    have g14 := gg14 none
    walk_at "ws"
    have KA := Anys.cut ⟨_, (ka.g (((((((((((((g1.trans g2).trans g3).trans g4.up).trans g5).trans (g6 _)).trans g7.up).trans g8.up).trans g9.up).trans g10.up).trans (g11 _)).trans g12.up).trans g13.up).trans g14.up) OH.s)⟩ none (some (i : Int))
    have KB := Anys.cut ⟨_, (ka.g (((((((((((((g1.trans g2).trans g3).trans g4.up).trans g5).trans (g6 _)).trans g7.up).trans g8.up).trans g9.up).trans g10.up).trans (g11 _)).trans g12.up).trans g13.up).trans g14.up) OH.s)⟩ (some ((i : Int) + 1)) none
    have XA := Anys.cut ⟨_, (ax.g (((((((((((((g1.trans g2).trans g3).trans g4.up).trans g5).trans (g6 _)).trans g7.up).trans g8.up).trans g9.up).trans g10.up).trans (g11 _)).trans g12.up).trans g13.up).trans g14.up) OH.s)⟩ none (some (j : Int))
    have XB := Anys.cut ⟨_, (ax.g (((((((((((((g1.trans g2).trans g3).trans g4.up).trans g5).trans (g6 _)).trans g7.up).trans g8.up).trans g9.up).trans g10.up).trans (g11 _)).trans g12.up).trans g13.up).trans g14.up) OH.s)⟩ (some ((j : Int) + 1)) none
    have UC : Any a.c_Program (hd, c) H14 (.ref p9) := ⟨_, .tup (((((g10.trans (g11 none)).trans g12).trans g13).trans g14).tups _ _ r9) ((KA.choose_spec.app (.cons (ab5.n (((((((((g6 none).trans g7).trans g8).trans g9).trans g10).trans (g11 none)).trans g12).trans g13).trans g14)) .nil)).app KB.choose_spec)⟩
    exact k _ _ H14 (((((((((((((g1.trans g2).trans g3).trans g4.up).trans g5).trans (g6 _)).trans g7.up).trans g8.up).trans g9.up).trans g10.up).trans (g11 _)).trans g12.up).trans g13.up).trans g14.up) (G.hand (((((((((((((g1.trans g2).trans g3).trans g4.up).trans g5).trans (g6 _)).trans g7.up).trans g8.up).trans g9.up).trans g10.up).trans (g11 _)).trans g12.up).trans g13.up).trans g14.up) (hd, c) rfl hh) (.tup r14 ((XA.choose_spec.app (.cons UC.choose_spec .nil)).app XB.choose_spec))
  rintro σ H2 ⟨rfl, g2, hh2⟩
  walk_at "ws"
  have hq2 := (G.hand (g1.trans g2) (hd, c) rfl hh)
  refine ⟨kp, kxs, rfl, .inr (.inl ((g1.trans g2).tups _ _ kr)), fun p3 H3 hp3 g3 h3 => ?_⟩
  have n3 := hq2.ne hp3
  walk_at "ws"
  refine ⟨sz (by simp), fun p4 H4 hp4 g4 h4 => ?_⟩
  walk_at "ws"
  refine ⟨sz (by simp), fun p5 H5 hp5 g5 h5 => ?_⟩
  walk_at "ws"
  refine ⟨p5, 61, [.ref p4], rfl, rfl, SqT.of h5, by simp, by decide, by decide, by simp, fun p6 H6 hp6 g6 h6 => ?_⟩
  walk_at "ws"
  refine ⟨sz (by simp), fun p7 H7 hp7 g7 h7 => ?_⟩
  walk_at "ws"
  refine ⟨sz (by simp), fun p8 H8 hp8 g8 h8 => ?_⟩
  walk_at "ws"
  refine ⟨p8, 60, [.ref p7], rfl, rfl, SqT.of h8, by simp, by decide, by decide, by simp, fun p9 H9 hp9 g9 h9 => ?_⟩
  walk_at "ws"
  have hq9 := (G.hand ((((((((g1.trans g2).trans (g3 _)).trans (g4 _)).trans (g5 _)).trans (g6 _)).trans (g7 _)).trans (g8 _)).trans (g9 _)) (hd, c) rfl hh)
  refine w_dnew (o := none) fun p10 H10 hp10 g10 h10 => ?_
  have n10 := hq9.ne hp10
  walk_at "ws"
  refine ⟨sz (by simp), fun p11 H11 hp11 g11 h11 => ?_⟩
  walk_at "ws"
  refine ⟨sz (by simp), fun p12 H12 hp12 g12 h12 => ?_⟩
  walk_at "ws"
  refine ⟨p12, 60, [.ref p11], rfl, rfl, SqT.of h12, by simp, by decide, by decide, by simp, fun p13 H13 hp13 g13 h13 => ?_⟩
  walk_at "ws"
  have hq13 := (G.hand ((((((((((((g1.trans g2).trans (g3 _)).trans (g4 _)).trans (g5 _)).trans (g6 _)).trans (g7 _)).trans (g8 _)).trans (g9 _)).trans (g10 _)).trans (g11 _)).trans (g12 _)).trans (g13 _)) (hd, c) rfl hh)
  refine ⟨rfl, fun p14 ys14 H14 hp14 g14 h14 => ?_⟩
  have n14 := hq13.ne hp14
  walk_at "ws"
  have hq14 := (G.hand (((((((((((((g1.trans g2).trans (g3 _)).trans (g4 _)).trans (g5 _)).trans (g6 _)).trans (g7 _)).trans (g8 _)).trans (g9 _)).trans (g10 _)).trans (g11 _)).trans (g12 _)).trans (g13 _)).trans g14.up) (hd, c) rfl hh)
  refine ⟨sz (by simp), fun p15 H15 hp15 g15 h15 => ?_⟩
  have n15 := hq14.ne hp15
  have A15 : Anys a.c_Program (hd, c) H15 [.ref p3, .non, .ref p6, .ref p9, .str "tell", .ref p10, .ref p13, .ref p14] := Any.cons ⟨_, ab_lst n3 (((((((((((((g4 none).trans (g5 none)).trans (g6 none)).trans (g7 none)).trans (g8 none)).trans (g9 none)).trans (g10 none)).trans (g11 none)).trans (g12 none)).trans (g13 none)).trans g14).trans (g15 none)).all _ _ h3)⟩ (Any.cons ⟨_, .non⟩ (Any.cons ⟨_, .tup (.inl ((((((((((g7 none).trans (g8 none)).trans (g9 none)).trans (g10 none)).trans (g11 none)).trans (g12 none)).trans (g13 none)).trans g14).trans (g15 none)).all _ _ h6)) (ab_rep (.cons (.tup (.inl ((((((((((((g5 none).trans (g6 none)).trans (g7 none)).trans (g8 none)).trans (g9 none)).trans (g10 none)).trans (g11 none)).trans (g12 none)).trans (g13 none)).trans g14).trans (g15 none)).all _ _ h4)) (.cons (.str _) (.cons (.int _) .nil))) .nil) _)⟩ (Any.cons ⟨_, .tup (.inl (((((((g10 none).trans (g11 none)).trans (g12 none)).trans (g13 none)).trans g14).trans (g15 none)).all _ _ h9)) (ab_rep (.cons (.tup (.inl (((((((((g8 none).trans (g9 none)).trans (g10 none)).trans (g11 none)).trans (g12 none)).trans (g13 none)).trans g14).trans (g15 none)).all _ _ h7)) (.cons (.str _) .nil)) .nil) _)⟩ (Any.cons ⟨_, .str _⟩ (Any.cons ⟨_, ab_dK n10 ((((((g11 none).trans (g12 none)).trans (g13 none)).trans g14).trans (g15 none)).all _ _ h10)⟩ (Any.cons ⟨_, .tup (.inl ((g14.trans (g15 none)).all _ _ h13)) (ab_rep (.cons (.tup (.inl (((((g12 none).trans (g13 none)).trans g14).trans (g15 none)).all _ _ h11)) (.cons (.str _) (.cons (.int _) .nil))) .nil) _)⟩ (Any.cons ⟨_, ab_lst n14 ((g15 none).all _ _ h14)⟩ Anys.nil)))))))
  obtain ⟨L15, eL, ln15⟩ : ∃ L : List V, L = [.ref p3, .non, .ref p6, .ref p9, .str "tell", .ref p10, .ref p13, .ref p14] ∧ L.length = 8 := ⟨_, rfl, rfl⟩
  rw [← eL] at A15 h15
  clear eL
  walk_at "ws"
  refine ⟨hd, c, 8, rfl, (G.hand ((((((((((((((g1.trans g2).trans (g3 _)).trans (g4 _)).trans (g5 _)).trans (g6 _)).trans (g7 _)).trans (g8 _)).trans (g9 _)).trans (g10 _)).trans (g11 _)).trans (g12 _)).trans (g13 _)).trans g14.up).trans (g15 _)) (hd, c) rfl hh), by decide, by decide, fun z H16 z0 z1 g16 hh16 => ?_⟩
  obtain ⟨pt, tpt, e1, apt⟩ := Anys.at (A15.g g16 OH.s) z0 (by rw [ln15]; exact z1)
  refine r_ixL (SqL.of (G.keep g16 p15 _ (fun q e => by cases e; exact n15) h15)) e1 ?_
  walk_at "ws"
  refine ⟨cp, xs, rfl, ((((((((((((((((g1.trans g2).trans (g3 _)).trans (g4 _)).trans (g5 _)).trans (g6 _)).trans (g7 _)).trans (g8 _)).trans (g9 _)).trans (g10 _)).trans (g11 _)).trans (g12 _)).trans (g13 _)).trans g14.up).trans (g15 _)).trans g16).tups _ _ rr), fun p17 H17 gg17 r17 => ?_⟩
  have g17 := gg17 none
  have c1 := cut_le xs none (some (j : Int))
  walk_at "ws"
  refine ⟨sz (by simp), fun p18 H18 hp18 g18 h18 => ?_⟩
  refine ⟨p17, p18, _, _, rfl, rfl, ((g18 none).tups _ _ r17), (.inl h18), by simp; omega, fun p19 H19 gg19 r19 => ?_⟩
  have g19 := gg19 none
  walk_at "ws"
  refine ⟨cp, xs, rfl, (((((((((((((((((((g1.trans g2).trans (g3 _)).trans (g4 _)).trans (g5 _)).trans (g6 _)).trans (g7 _)).trans (g8 _)).trans (g9 _)).trans (g10 _)).trans (g11 _)).trans (g12 _)).trans (g13 _)).trans g14.up).trans (g15 _)).trans g16).trans g17.up).trans (g18 _)).trans g19.up).tups _ _ rr), fun p20 H20 gg20 r20 => ?_⟩
  have g20 := gg20 none
  have c2 := cut_le xs (some ((j : Int) + 1)) none
  refine ⟨p19, p20, _, _, rfl, rfl, (g20.tups _ _ r19), r20, by simp only [List.length_append, List.length_singleton]; omega, fun p21 H21 gg21 r21 => ?_⟩
  have g21 := gg21 none
  walk_at "ws"
  have XA := Anys.cut ⟨_, (ax.g ((((((((((((((((((((g1.trans g2).trans (g3 _)).trans (g4 _)).trans (g5 _)).trans (g6 _)).trans (g7 _)).trans (g8 _)).trans (g9 _)).trans (g10 _)).trans (g11 _)).trans (g12 _)).trans (g13 _)).trans g14.up).trans (g15 _)).trans g16).trans g17.up).trans (g18 _)).trans g19.up).trans g20.up).trans g21.up) OH.s)⟩ none (some (j : Int))
  have XB := Anys.cut ⟨_, (ax.g ((((((((((((((((((((g1.trans g2).trans (g3 _)).trans (g4 _)).trans (g5 _)).trans (g6 _)).trans (g7 _)).trans (g8 _)).trans (g9 _)).trans (g10 _)).trans (g11 _)).trans (g12 _)).trans (g13 _)).trans g14.up).trans (g15 _)).trans g16).trans g17.up).trans (g18 _)).trans g19.up).trans g20.up).trans g21.up) OH.s)⟩ (some ((j : Int) + 1)) none
  have U21 : Any a.c_Program (hd, c) H21 (.ref p21) := ⟨_, .tup r21 ((XA.choose_spec.app (.cons (apt.n ((((g17.trans (g18 none)).trans g19).trans g20).trans g21)) .nil)).app XB.choose_spec)⟩
  refine ⟨sz (by simp), fun p22 H22 hp22 g22 h22 => ?_⟩
  walk_at "ws"
  refine ⟨p22, 4, _, rfl, rfl, h22, by decide, by decide, by simp, fun p23 H23 hp23 g23 h23 => ?_⟩
  walk_at "ws"
  have hq23 := (G.hand ((((((((((((((((((((((g1.trans g2).trans (g3 _)).trans (g4 _)).trans (g5 _)).trans (g6 _)).trans (g7 _)).trans (g8 _)).trans (g9 _)).trans (g10 _)).trans (g11 _)).trans (g12 _)).trans (g13 _)).trans g14.up).trans (g15 _)).trans g16).trans g17.up).trans (g18 _)).trans g19.up).trans g20.up).trans g21.up).trans (g22 _)).trans (g23 _)) (hd, c) rfl hh)
  refine ⟨cp, xs, rfl, .inr (.inl (((((((((((((((((((((((g1.trans g2).trans (g3 _)).trans (g4 _)).trans (g5 _)).trans (g6 _)).trans (g7 _)).trans (g8 _)).trans (g9 _)).trans (g10 _)).trans (g11 _)).trans (g12 _)).trans (g13 _)).trans g14.up).trans (g15 _)).trans g16).trans g17.up).trans (g18 _)).trans g19.up).trans g20.up).trans g21.up).trans (g22 _)).trans (g23 _)).tups _ _ rr)), fun p24 H24 hp24 g24 h24 => ?_⟩
  have n24 := hq23.ne hp24
  walk_at "ws"
  refine ⟨sz (by simp), fun p25 H25 hp25 g25 h25 => ?_⟩
  walk_at "ws"
  refine ⟨cp, 8, xs, rfl, rfl, .inl (((((((((((((((((((((((((g1.trans g2).trans (g3 _)).trans (g4 _)).trans (g5 _)).trans (g6 _)).trans (g7 _)).trans (g8 _)).trans (g9 _)).trans (g10 _)).trans (g11 _)).trans (g12 _)).trans (g13 _)).trans g14.up).trans (g15 _)).trans g16).trans g17.up).trans (g18 _)).trans g19.up).trans g20.up).trans g21.up).trans (g22 _)).trans (g23 _)).trans (g24 _)).trans (g25 _)).tups _ _ rr), (fun e => by rw [e] at l1; simp at l1), by decide, by decide, by omega, fun p26 H26 hp26 g26 h26 => ?_⟩
  walk_at "ws"
  have hq26 := (G.hand (((((((((((((((((((((((((g1.trans g2).trans (g3 _)).trans (g4 _)).trans (g5 _)).trans (g6 _)).trans (g7 _)).trans (g8 _)).trans (g9 _)).trans (g10 _)).trans (g11 _)).trans (g12 _)).trans (g13 _)).trans g14.up).trans (g15 _)).trans g16).trans g17.up).trans (g18 _)).trans g19.up).trans g20.up).trans g21.up).trans (g22 _)).trans (g23 _)).trans (g24 _)).trans (g25 _)).trans (g26 _)) (hd, c) rfl hh)
  refine ⟨rfl, fun p27 ys27 H27 hp27 g27 h27 => ?_⟩
  have n27 := hq26.ne hp27
  walk_at "ws"
  refine ⟨sz (by simp), fun p28 H28 hp28 g28 h28 => ?_⟩
  have hq28 := (G.hand (((((((((((((((((((((((((((g1.trans g2).trans (g3 _)).trans (g4 _)).trans (g5 _)).trans (g6 _)).trans (g7 _)).trans (g8 _)).trans (g9 _)).trans (g10 _)).trans (g11 _)).trans (g12 _)).trans (g13 _)).trans g14.up).trans (g15 _)).trans g16).trans g17.up).trans (g18 _)).trans g19.up).trans g20.up).trans g21.up).trans (g22 _)).trans (g23 _)).trans (g24 _)).trans (g25 _)).trans (g26 _)).trans g27.up).trans (g28 _)) (hd, c) rfl hh)
  refine ⟨p23, p28, _, _, rfl, rfl, ((((((g24 none).trans (g25 none)).trans (g26 none)).trans g27).trans (g28 none)).all _ _ h23), h28, by simp, fun p29 H29 hp29 g29 h29 => ?_⟩
  have n29 := hq28.ne hp29
  have A29 : Anys a.c_Program (hd, c) H29 ((List.replicate (4 : Int).toNat [V.ref p21]).flatten ++ [.ref p24, .ref p25, .non, .ref p26, .str "codes", .ref p27]) :=
    Anys.app (Anys.rep (Anys.one (U21.n ((((((((g22 none).trans (g23 none)).trans (g24 none)).trans (g25 none)).trans (g26 none)).trans g27).trans (g28 none)).trans (g29 none)))) 4) (Any.cons ⟨_, ab_lst n24 ((((((g25 none).trans (g26 none)).trans g27).trans (g28 none)).trans (g29 none)).all _ _ h24)⟩ (Any.cons ⟨_, .tup (.inl (((((g26 none).trans g27).trans (g28 none)).trans (g29 none)).all _ _ h25)) .nil⟩ (Any.cons ⟨_, .non⟩ (Any.cons ⟨_, .tup (.inl (((g27.trans (g28 none)).trans (g29 none)).all _ _ h26)) (ab_rep (ax.g ((((((((((((((((((((((((((((g1.trans g2).trans (g3 _)).trans (g4 _)).trans (g5 _)).trans (g6 _)).trans (g7 _)).trans (g8 _)).trans (g9 _)).trans (g10 _)).trans (g11 _)).trans (g12 _)).trans (g13 _)).trans g14.up).trans (g15 _)).trans g16).trans g17.up).trans (g18 _)).trans g19.up).trans g20.up).trans g21.up).trans (g22 _)).trans (g23 _)).trans (g24 _)).trans (g25 _)).trans (g26 _)).trans g27.up).trans (g28 _)).trans (g29 _)) OH.s) _)⟩ (Any.cons ⟨_, .str _⟩ (Any.cons ⟨_, ab_lst n27 (((g28 none).trans (g29 none)).all _ _ h27)⟩ Anys.nil))))))
  obtain ⟨L29, eL, ln29⟩ : ∃ L : List V, L = (List.replicate (4 : Int).toNat [V.ref p21]).flatten ++ [.ref p24, .ref p25, .non, .ref p26, .str "codes", .ref p27] ∧ L.length = 10 := ⟨_, rfl, rfl⟩
  rw [← eL] at A29 h29
  clear eL
  walk_at "ws"
  refine ⟨cp, xs, rfl, (((((((((((((((((((((((((((((g1.trans g2).trans (g3 _)).trans (g4 _)).trans (g5 _)).trans (g6 _)).trans (g7 _)).trans (g8 _)).trans (g9 _)).trans (g10 _)).trans (g11 _)).trans (g12 _)).trans (g13 _)).trans g14.up).trans (g15 _)).trans g16).trans g17.up).trans (g18 _)).trans g19.up).trans g20.up).trans g21.up).trans (g22 _)).trans (g23 _)).trans (g24 _)).trans (g25 _)).trans (g26 _)).trans g27.up).trans (g28 _)).trans (g29 _)).tups _ _ rr), fun p30 H30 gg30 r30 => ?_⟩
  have g30 := gg30 none
  walk_at "ws"
  refine ⟨sz (by simp), fun p31 H31 hp31 g31 h31 => ?_⟩
  walk_at "ws"
  refine ⟨sz (by simp), fun p32 H32 hp32 g32 h32 => ?_⟩
  refine ⟨cp, p32, _, _, rfl, rfl, ((((((((((((((((((((((((((((((((g1.trans g2).trans (g3 _)).trans (g4 _)).trans (g5 _)).trans (g6 _)).trans (g7 _)).trans (g8 _)).trans (g9 _)).trans (g10 _)).trans (g11 _)).trans (g12 _)).trans (g13 _)).trans g14.up).trans (g15 _)).trans g16).trans g17.up).trans (g18 _)).trans g19.up).trans g20.up).trans g21.up).trans (g22 _)).trans (g23 _)).trans (g24 _)).trans (g25 _)).trans (g26 _)).trans g27.up).trans (g28 _)).trans (g29 _)).trans g30.up).trans (g31 _)).trans (g32 _)).tups _ _ rr), (.inl h32), by simp; omega, fun p33 H33 gg33 r33 => ?_⟩
  have g33 := gg33 none
  walk_at "ws"
  refine ⟨sz (by simp), fun p34 H34 hp34 g34 h34 => ?_⟩
  have hq34 := (G.hand (((((((((((((((((((((((((((((((((g1.trans g2).trans (g3 _)).trans (g4 _)).trans (g5 _)).trans (g6 _)).trans (g7 _)).trans (g8 _)).trans (g9 _)).trans (g10 _)).trans (g11 _)).trans (g12 _)).trans (g13 _)).trans g14.up).trans (g15 _)).trans g16).trans g17.up).trans (g18 _)).trans g19.up).trans g20.up).trans g21.up).trans (g22 _)).trans (g23 _)).trans (g24 _)).trans (g25 _)).trans (g26 _)).trans g27.up).trans (g28 _)).trans (g29 _)).trans g30.up).trans (g31 _)).trans (g32 _)).trans g33.up).trans (g34 _)) (hd, c) rfl hh)
  refine ⟨p29, p34, _, _, rfl, rfl, (((((g30.trans (g31 none)).trans (g32 none)).trans g33).trans (g34 none)).all _ _ h29), h34, by rw [ln29]; simp, fun p35 H35 hp35 g35 h35 => ?_⟩
  have n35 := hq34.ne hp35
  have XC := Anys.cut ⟨_, (ax.g ((((((((((((((((((((((((((((((((((g1.trans g2).trans (g3 _)).trans (g4 _)).trans (g5 _)).trans (g6 _)).trans (g7 _)).trans (g8 _)).trans (g9 _)).trans (g10 _)).trans (g11 _)).trans (g12 _)).trans (g13 _)).trans g14.up).trans (g15 _)).trans g16).trans g17.up).trans (g18 _)).trans g19.up).trans g20.up).trans g21.up).trans (g22 _)).trans (g23 _)).trans (g24 _)).trans (g25 _)).trans (g26 _)).trans g27.up).trans (g28 _)).trans (g29 _)).trans g30.up).trans (g31 _)).trans (g32 _)).trans g33.up).trans (g34 _)).trans (g35 _)) OH.s)⟩ (some 1) none
  have A35 : Anys a.c_Program (hd, c) H35 (L29 ++ [.ref p30, .ref p33]) := Anys.app (A29.n (((((g30.trans (g31 none)).trans (g32 none)).trans g33).trans (g34 none)).trans (g35 none))) (Any.cons ⟨_, .tup ((((((g31 none).trans (g32 none)).trans g33).trans (g34 none)).trans (g35 none)).tups _ _ r30) XC.choose_spec⟩ (Any.cons ⟨_, .tup (((g34 none).trans (g35 none)).tups _ _ r33) ((ax.g ((((((((((((((((((((((((((((((((((g1.trans g2).trans (g3 _)).trans (g4 _)).trans (g5 _)).trans (g6 _)).trans (g7 _)).trans (g8 _)).trans (g9 _)).trans (g10 _)).trans (g11 _)).trans (g12 _)).trans (g13 _)).trans g14.up).trans (g15 _)).trans g16).trans g17.up).trans (g18 _)).trans g19.up).trans g20.up).trans g21.up).trans (g22 _)).trans (g23 _)).trans (g24 _)).trans (g25 _)).trans (g26 _)).trans g27.up).trans (g28 _)).trans (g29 _)).trans g30.up).trans (g31 _)).trans (g32 _)).trans g33.up).trans (g34 _)).trans (g35 _)) OH.s).app (.cons (.tup (.inl (((((g32 none).trans g33).trans (g34 none)).trans (g35 none)).all _ _ h31)) .nil) .nil))⟩ Anys.nil))
  walk_at "ws"
  refine ⟨hd, c, 12, rfl, (G.hand ((((((((((((((((((((((((((((((((((g1.trans g2).trans (g3 _)).trans (g4 _)).trans (g5 _)).trans (g6 _)).trans (g7 _)).trans (g8 _)).trans (g9 _)).trans (g10 _)).trans (g11 _)).trans (g12 _)).trans (g13 _)).trans g14.up).trans (g15 _)).trans g16).trans g17.up).trans (g18 _)).trans g19.up).trans g20.up).trans g21.up).trans (g22 _)).trans (g23 _)).trans (g24 _)).trans (g25 _)).trans (g26 _)).trans g27.up).trans (g28 _)).trans (g29 _)).trans g30.up).trans (g31 _)).trans (g32 _)).trans g33.up).trans (g34 _)).trans (g35 _)) (hd, c) rfl hh), by decide, by decide, fun y H36 y0 y1 g36 hh36 => ?_⟩
  obtain ⟨v, t, ev, av⟩ := Anys.at (A35.g g36 OH.s) y0 (by rw [List.length_append, ln29]; exact y1)
  refine r_ixL (SqL.of (G.keep g36 p35 _ (fun q e => by cases e; exact n35) h35)) ev ?_
  exact k v t H36 (((((((((((((((((((((((((((((((((((g1.trans g2).trans (g3 _)).trans (g4 _)).trans (g5 _)).trans (g6 _)).trans (g7 _)).trans (g8 _)).trans (g9 _)).trans (g10 _)).trans (g11 _)).trans (g12 _)).trans (g13 _)).trans g14.up).trans (g15 _)).trans g16).trans g17.up).trans (g18 _)).trans g19.up).trans g20.up).trans g21.up).trans (g22 _)).trans (g23 _)).trans (g24 _)).trans (g25 _)).trans (g26 _)).trans g27.up).trans (g28 _)).trans (g29 _)).trans g30.up).trans (g31 _)).trans (g32 _)).trans g33.up).trans (g34 _)).trans (g35 _)).trans g36) hh36 av

end
end Mine
/-! ## K17 -/


namespace Mine
section
variable {P : Program} {w : World} {K : PySem.W.Frag} {mg : Str → Option Value} {base : Heap} {a : Ads}

/-! ### Web(1, ()) -/
theorem no_is_unlike_pair (T : Txt w K mg a) : FnOk P w K mg base CX0 1 a.f_is_unlike_pair a.d_is_unlike_pair P_is_unlike_pair (fun _ _ _ _ => False) := ⟨fun _ _ _ _ h => h.elim, fun _ _ _ _ _ _ _ _ _ _ _ _ _ h => h.elim⟩

def sp_first_wrong_wire (K : PySem.W.Frag) : Sp := fun vs H Q _ => ∃ (p : Addr), vs = [.int 1, .ref p] ∧ SqT K H p [] ∧ Q .non H
theorem ok_first_wrong_wire (T : Txt w K mg a) : FnOk P w K mg base CX0 2 a.f_first_wrong_wire a.d_first_wrong_wire P_first_wrong_wire (sp_first_wrong_wire K) := by
  refine T.F_first_wrong_wire.ok sc_first_wrong_wire (fun vs H Q E h => by obtain ⟨p, rfl, _⟩ := h; rfl) (fun cdv A outer s H vs Q E hr h => ?_)
  obtain ⟨p, rfl, hp, k⟩ := h
  have G_is_unlike_pair : FnOk P w K mg base CX0 1 a.f_is_unlike_pair a.d_is_unlike_pair P_is_unlike_pair (fun _ _ _ _ => False) := no_is_unlike_pair T
  refine ⟨_, (pss_cons (ps_for PassesOwn.never rfl (pi_enumT (by rfl) T.n_enumerate (pa_cons (pv 1) pa_nil)) (pg_tup rfl (pgs_cons (pg_name (i := 2) sc_first_wrong_wire.nd rfl (Or.inl rfl)) (pgs_cons (pg_name (i := 3) sc_first_wrong_wire.nd rfl (Or.inl rfl)) pgs_nil)))
    (pss_cons (ps_if (pt_not (pt_val (pe_call (G_is_unlike_pair) (hr.mono (by omega)) rfl T.m_is_unlike_pair T.F_is_unlike_pair.kp T.b_is_unlike_pair .nil pass0 (pa_cons (pv 0) (pa_cons (pv 3) pa_nil)))))
    (pss_one (ps_ret (pv 2)))
    pss_nil)
  (pss_one (ps_if (L2.PW.pt (pw_and (pt_cmpR op_gt (pv 2) pe_int (nomark _)) (pw_and1 (pt_cmpR op_le (pv 3) (pe_ix ix_tup (pv 1) (pe_op op_sub (pv 2) pe_int) (fun _ _ => rfl)) (nomark _)))))
    (pss_one (ps_ret (pv 2)))
    pss_nil))))
  (pss_one (ps_ret pe_non))), ?_⟩
  walk_at "ws"
  refine i_enum hp ?_
  refine for_it (walk_enumT (xs := [])) (fun i σ H1 => H1 = H ∧ ∃ u2 u3, σ = [some (.int 1), some (.ref p), u2, u3]) ⟨rfl, _, _, rfl⟩ (fun i σ H1 _ h => by rw [h.1]; exact hp) ?_ ?_
  · rintro i x σ H1 H2 hi
    exact absurd hi (Nat.not_lt_zero _)
  · rintro σ H1 ⟨rfl, u2, u3, rfl⟩
    walk_at "ws"
    exact k
theorem wdW_ : ¬ (("machines" : Str) = "wires") := by decide +kernel
def wf (w d : V) : List (Str × V) := [("machines", w), ("wires", d)]
theorem wput0 (w : V) : putF "machines" w [] = [(("machines" : Str), w)] := rfl
theorem wput1 (w d : V) : putF "wires" d [(("machines" : Str), w)] = wf w d := by
  show (if ("machines" : Str) = "wires" then _ else (("machines" : Str), w) :: putF "wires" d []) = _
  rw [if_neg wdW_]; rfl
def sp_Web_init (K : PySem.W.Frag) (C : Addr) : Sp := fun vs H Q _ => ∃ (x dx p : Addr), vs = [.ref x, .int 1, .ref p] ∧ H x = some (.ins C dx []) ∧ Rd H p (.tup []) ∧
  ∀ H' fs, (∀ b u, b ≠ x → H b = some u → H' b = some u) → H' x = some (.ins C dx fs) → Q .non H'
theorem ok_Web_init (T : Txt w K mg a) : FnOk P w K mg base CX0 3 a.f_Web_init a.d_Web_init P_Web_init (sp_Web_init K a.c_Web) := by
  refine T.F_Web_init.ok sc_Web_init (fun vs H Q E h => by obtain ⟨x, dx, p, rfl, _⟩ := h; rfl) (fun cdv A outer s H vs Q E hr h => ?_)
  obtain ⟨x, dx, p, rfl, hx, hp, k⟩ := h
  have G_is_between : FnOk P w K mg base CX0 2 a.f_is_between a.d_is_between P_is_between (sp_is_between a.c_Program) := ok_is_between T
  have G_first_wrong_wire : FnOk P w K mg base CX0 2 a.f_first_wrong_wire a.d_first_wrong_wire P_first_wrong_wire (sp_first_wrong_wire K) := ok_first_wrong_wire T
  refine ⟨_, (pss_cons (ps_if (pt_not (pt_val (pe_call (G_is_between) (hr.mono (by omega)) rfl T.m_is_between T.F_is_between.kp T.b_is_between .nil pass0 (pa_cons pe_int (pa_cons (pe_glob (v := .int 7) rfl T.m_MOST_MACHINES ⟨_, rfl⟩) (pa_cons (pv 1) pa_nil))))))
    pss_never
    pss_nil)
  (pss_cons (ps_if (pt_not (pt_val (pe_callB call_isi (by rfl) T.n_isinstance (by decide +kernel) (pa_cons (pv 2) (pa_cons (pe_bltn (v := .ty "tuple") (u := .type "tuple") rfl T.n_tuple (by decide +kernel) rfl) pa_nil)))))
    pss_never
    pss_nil)
  (pss_cons (ps_set (i := 3) sc_Web_init.nd rfl (Or.inl rfl) (pe_call (G_first_wrong_wire) (hr.mono (by omega)) rfl T.m_first_wrong_wire T.F_first_wrong_wire.kp T.b_first_wrong_wire .nil pass0 (pa_cons (pv 1) (pa_cons (pv 2) pa_nil))))
  (pss_cons (ps_if (pt_cmp (pc_notN (pv 3)))
    pss_never
    pss_nil)
  (pss_cons (ps_fld (pv 0) (pv 1) rfl)
  (pss_one (ps_fld (pv 0) (pv 2) rfl))))))), ?_⟩
  walk_at "ws"
  refine ⟨1, 7, (x, x), .int 1, .int 1, rfl, .int 1, ?_⟩
  rw [show btw 1 7 (.int 1) = true from rfl]
  walk_at "ws"
  refine r_isi (tyx_tup (K := K) (.inl hp)) (kit_ty (by decide +kernel) : _ = some true) ?_
  walk_at "ws"
  refine ⟨p, rfl, .inl hp, ?_⟩
  walk_at "ws"
  refine w_iteN (by simp) ?_
  walk_at "ws"
  refine r_sfld hx T.cl_Web T.na_Web_machines (by show 0 < 1000; decide) ?_
  walk_at "ws"
  refine r_sfld upd_same T.cl_Web T.na_Web_wires (by rw [wput0]; show 1 < 1000; decide) ?_
  rw [wput0, wput1]
  refine k _ _ (fun b u n z => ?_) upd_same
  rw [upd_ne n, upd_ne n]; exact z
theorem make_web {K : PySem.W.Frag} {C : Addr} {H1 : Hp} {p : Addr} {F : Addr → Hp → Prop} {E : XK} (hp : Rd H1 p (.tup []))
    (q : ∀ x dx fs H2, (∀ o, G o H1 H2) → H2 x = some (.ins C dx fs) → F x H2) :
    ∀ x dx, H1 x = none → H1 dx = none → dx ≠ x → sp_Web_init K C (.ref x :: ([.int 1, .ref p] ++ [])) (upd (upd H1 dx (.own x)) x (.ins C dx [])) (fun v H2 => v = .non ∧ F x H2) E := by
  intro x dx hx hdx nex
  have k12 : ∀ a u, H1 a = some u → (upd (upd H1 dx (.own x)) x (.ins C dx [])) a = some u := fun a u e => by
    rw [upd_ne (ne_of_none e hx), upd_ne (ne_of_none e hdx)]; exact e
  have g12 : G none H1 (upd (upd H1 dx (.own x)) x (.ins C dx [])) := G.of_all k12
  refine ⟨x, dx, p, rfl, upd_same, g12.tups _ _ hp, fun H2 fs k2 h2 => ⟨rfl, ?_⟩⟩
  exact q x dx fs H2 (fun o => G.of_all fun a u e => k2 a u (ne_of_none e hx) (k12 a u e)) h2

end
end Mine
/-! ## K18 -/


namespace Mine
section
variable {P : Program} {w : World} {K : PySem.W.Frag} {mg : Str → Option Value} {base : Heap} {a : Ads}

/-! ### the law -/
def shwB (d : PyData) : Bool := d.showable && !d.hasDict && decide (d.depth ≤ 40) && decide (d.shown.length ≤ sizeLine)
theorem shw_of {d : PyData} (h : shwB d = true) : Shw d := by
  unfold shwB at h
  rw [Bool.and_eq_true, Bool.and_eq_true, Bool.and_eq_true, decide_eq_true_eq, decide_eq_true_eq] at h
  exact ⟨h.1.1.1, by simpa using h.1.1.2, h.1.2, h.2⟩
theorem shw_c : ∀ n : Nat, n < 70 → shwB (dueD (some (.str "codes", (n : Int) - 1))) = true := by decide +kernel
theorem shw_o : ∀ n : Nat, n < 70 → shwB (dueD (some (.str "owners", (n : Int) - 1))) = true := by decide +kernel
theorem shw_m : ∀ m : Nat, m < 8 → ∀ n : Nat, n < 70 → shwB (dueD (some (.int (m : Nat), (n : Int) - 1))) = true := by decide +kernel
theorem fw_lt {f : Nat → Bool} {n i : Nat} (h : fw f n = some i) : i < n := List.mem_range.mp (List.mem_of_find?_eq_some h)
theorem shw_due (to tc : Tg) : Shw (dueD (due to tc)) := by
  by_cases e1 : tsz 1 7 tc = true
  · by_cases e2 : tsz 1 8 to = true
    · cases tc with
      | tup cs =>
        cases to with
        | tup ts =>
          have b1 : (decide ((1 : Int) ≤ cs.length) && decide ((cs.length : Int) ≤ 7)) = true := e1
          have b2 : (decide ((1 : Int) ≤ ts.length) && decide ((ts.length : Int) ≤ 8)) = true := e2
          rw [Bool.and_eq_true, decide_eq_true_eq, decide_eq_true_eq] at b1 b2
          cases f3 : fw (okO cs.length ts) ts.length with
          | some i =>
            have := fw_lt f3
            rw [due_3 e1 e2 f3]
            have q := shw_of (shw_o (i + 1) (by omega))
            rw [show (((i + 1 : Nat) : Int) - 1) = (i : Int) by omega] at q
            exact q
          | none =>
            cases f4 : fw (okC cs) cs.length with
            | some i =>
              have := fw_lt f4
              rw [due_4 e1 e2 f3 f4]
              have q := shw_of (shw_c (i + 1) (by omega))
              rw [show (((i + 1 : Nat) : Int) - 1) = (i : Int) by omega] at q
              exact q
            | none =>
              cases f5 : fw (fun m => (wrR ts cs m).isNone) cs.length with
              | some m =>
                have lm := fw_lt f5
                have q : (wrR ts cs m).isNone = false := by
                  have := List.find?_some f5
                  simpa using this
                cases q2 : wrR ts cs m with
                | none => rw [q2] at q; cases q
                | some i =>
                  have li : i < (itemsT (cs.getD m .non)).length := fw_lt q2
                  have k4 := fw_all f4 m lm
                  unfold okC at k4
                  have l60 : (itemsT (cs.getD m .non)).length ≤ 60 := by
                    cases z : cs.getD m .non with
                    | tup rs =>
                      rw [z] at k4
                      have k4 : (decide ((0 : Int) ≤ rs.length) && decide ((rs.length : Int) ≤ 60)) = true := k4
                      rw [Bool.and_eq_true, decide_eq_true_eq, decide_eq_true_eq] at k4
                      show rs.length ≤ 60
                      omega
                    | non => exact Nat.zero_le _
                    | bl _ => exact Nat.zero_le _
                    | int _ => exact Nat.zero_le _
                    | str _ => exact Nat.zero_le _
                    | oth => exact Nat.zero_le _
                  rw [due_5 e1 e2 f3 f4 f5 q2]
                  have q := shw_of (shw_m m (by omega) (i + 1) (by omega))
                  rw [show (((i + 1 : Nat) : Int) - 1) = (i : Int) by omega] at q
                  exact q
              | none =>
                rw [due_6 e1 e2 f3 f4 f5]
                exact shw_of (by decide +kernel)
        | non => cases e2
        | bl _ => cases e2
        | int _ => cases e2
        | str _ => cases e2
        | oth => cases e2
      | non => cases e1
      | bl _ => cases e1
      | int _ => cases e1
      | str _ => cases e1
      | oth => cases e1
    · rw [due_2 e1 (Bool.eq_false_iff.mpr e2)]
      exact shw_of (shw_o 0 (by decide))
  · rw [due_1 (Bool.eq_false_iff.mpr e1)]
    exact shw_of (shw_c 0 (by decide))
theorem nl_due (o : Option (V × Int)) : nl (dueD o) = true := by
  cases o with
  | none => rfl
  | some e =>
    obtain ⟨v, i⟩ := e
    cases v <;> rfl
theorem dp_n {H H' : Hp} {v : V} {d : PyData} (h : Dp K H v d) (n : nl d = true) (g : G none H H') : Dp K H' v d := dp_t g.tups d v n h
/-- a program's parts, kept -/
def SpecAt (C : Addr) (H : Hp) (v : V) : Prop := ∃ (q op cp : Addr) (os : List Int) (xs : List V) (cs : List Tg), v = .ref q ∧ Rd H q (.tup [.ref op, .ref cp]) ∧ Rd H op (.tup (os.map V.int)) ∧ Rd H cp (.tup xs) ∧ AbAll C (q, q) H xs cs ∧ IsProg os cs
mutual
theorem pureT_any {C : Addr} {hd hd' : Addr × Addr} {H : Hp} : ∀ (t : Tg) (v : V), pureT t = true → Ab C hd H v t → Ab C hd' H v t
  | .non, _, _, h => by cases h; exact .non
  | .bl b, _, _, h => by cases h; exact .bl b
  | .int b, _, _, h => by cases h; exact .int b
  | .str b, _, _, h => by cases h; exact .str b
  | .oth, _, e, _ => Bool.noConfusion (show false = true from e)
  | .tup ts, _, e, h => by
    cases h with
    | tup r a => exact .tup r (pureTs_any0 ts _ (by rw [pureT] at e; exact e) a)
theorem pureTs_any0 {C : Addr} {hd hd' : Addr × Addr} {H : Hp} : ∀ (ts : List Tg) (vs : List V), pureTs ts = true → AbAll C hd H vs ts → AbAll C hd' H vs ts
  | [], _, _, h => by cases h; exact .nil
  | t :: ts, _, e, h => by
    rw [pureTs, Bool.and_eq_true] at e
    cases h with
    | cons h1 h2 => exact .cons (pureT_any t _ e.1 h1) (pureTs_any0 ts _ e.2 h2)
end
theorem pureTs_any {C : Addr} {hd hd' : Addr × Addr} {H : Hp} {ts : List Tg} {xs : List V} (e : pureTs ts = true) (h : AbAll C hd H xs ts) : AbAll C hd' H xs ts := pureTs_any0 ts xs e h
theorem SpecAt.ts {C : Addr} {H H' : Hp} {v : V} (h : SpecAt C H v) (k : Ts H H') : SpecAt C H' v := by
  obtain ⟨q, op, cp, os, xs, cs, e, r1, r2, r3, al, pr⟩ := h
  exact ⟨q, op, cp, os, xs, cs, e, k _ _ r1, k _ _ r2, k _ _ r3, AbAll.ts k _ _ pr.ok.pure al, pr⟩
theorem nf_of {K : PySem.W.Frag} {C D : Addr} (h : PySem.W.kitOne K (.ref D) (.ref C) = some false) : PySem.W.notFirst K C (.ref D) = true := by
  unfold PySem.W.notFirst
  unfold PySem.W.kitOne at h
  split at h
  · cases h
  · rename_i n
    have h : (if ((PySem.W.clsIn K C).isSome && PySem.W.typeIn K (.ref C) == some (.type "type")) = true then PySem.W.subIn K (.ref D) (.ref C) else none) = some false := h
    split at h
    · rw [h]; simp
    · cases h
def spLaw (K : PySem.W.Frag) : Sp := fun vs H Q _ => ∃ (s : Addr) (ns : List Int), vs = [.ref s] ∧ SqL K H s (ns.map V.int) ∧ ns.length ≤ 63 ∧ ∀ H', Q (.bl true) H'
theorem ok_law (T : Txt w K mg a) : GOk P w K mg base CX0 11 a.f_law a.d_law P_law (spLaw K) := by
  refine Fun.okG0 T.F_law sc_law (fun vs H Q E h => by obtain ⟨s, ns, rfl, _⟩ := h; rfl) (fun cdv A outer s0 H vs Q E gd hr h => ?_)
  obtain ⟨s, ns, rfl, hs, hl, k⟩ := h
  have G__law_pool : FnOk P w K mg base CX0 1 a.f__law_pool a.d__law_pool P__law_pool (sp__law_pool K) := ok__law_pool T
  have G__law_draw : FnOk P w K mg base CX0 1 a.f__law_draw a.d__law_draw P__law_draw sp__law_draw := ok__law_draw T
  have G__law_program : FnOk P w K mg base CX0 3 a.f__law_program a.d__law_program P__law_program (sp__law_program K a.c_Program) := ok__law_program T
  have G__law_tried : FnOk P w K mg base CX0 9 a.f__law_tried a.d__law_tried P__law_tried (sp__law_tried K a.c_Program) := ok__law_tried T
  have G__law_due : FnOk P w K mg base CX0 3 a.f__law_due a.d__law_due P__law_due (sp__law_due K a.c_Program) := ok__law_due T
  have G__law_bent_codes : FnOk P w K mg base CX0 3 a.f__law_bent_codes a.d__law_bent_codes P__law_bent_codes (sp__law_bent_codes a.c_Program) := ok__law_bent_codes T
  have G__law_bent_owners : FnOk P w K mg base CX0 2 a.f__law_bent_owners a.d__law_bent_owners P__law_bent_owners (sp__law_bent_owners a.c_Program) := ok__law_bent_owners T
  have G_Web_init : FnOk P w K mg base CX0 3 a.f_Web_init a.d_Web_init P_Web_init (sp_Web_init K a.c_Web) := ok_Web_init T
  have G_Program_init : FnOk P w K mg base (L2.CX P w) 7 a.f_Program_init a.d_Program_init P_Program_init (sp_Program_init a.c_Program a.c_BadProgram) := ok_Program_init T
  have kt : PySem.W.kitOne K (.type "tuple") (.ref a.c_Program) = some false := kit_own (cls_some T.ic_Program.hm) T.wt fb_tuple rfl
  refine ⟨_, (pss_cons (ps_set (i := 1) sc_law.nd rfl (Or.inl rfl) (pe_call (G__law_pool) (hr.mono (by omega)) rfl T.m__law_pool T.F__law_pool.kp T.b__law_pool .nil pass0 (pa_cons (pv 0) pa_nil)))
  (pss_cons (ps_set (i := 2) sc_law.nd rfl (Or.inl rfl) (pe_lstN pa_nil))
  (pss_cons (ps_for PassesOwn.never rfl (pi_range1 rfl T.n_range (pa_cons pe_int pa_nil)) (pg_name (i := 3) sc_law.nd rfl (Or.inl rfl))
    (pss_cons (ps_set (i := 4) sc_law.nd rfl (Or.inl rfl) (pe_op op_add pe_int (pe_call (G__law_draw) (hr.mono (by omega)) rfl T.m__law_draw T.F__law_draw.kp T.b__law_draw .nil pass0 (pa_cons (pv 1) (pa_cons (pe_ix ix_list (pe_lstN (pa_cons pe_int (pa_cons pe_int pa_nil))) (pe_callTy call_int1 (by rfl) T.n_int (by decide +kernel) (pa_cons (pe_cmpR op_eq (pv 3) pe_int (nomark _)) pa_nil)) (fun _ _ => rfl)) pa_nil)))))
  (pss_cons (ps_asg (pe_call (G__law_program) (hr.mono (by omega)) rfl T.m__law_program T.F__law_program.kp T.b__law_program .nil pass0 (pa_cons (pv 1) (pa_cons (pv 4) (pa_cons (pe_ix ix_list (pe_lstN (pa_cons pe_int (pa_cons pe_int pa_nil))) (pe_callTy call_int1 (by rfl) T.n_int (by decide +kernel) (pa_cons (pe_cmpR op_eq (pe_call (G__law_draw) (hr.mono (by omega)) rfl T.m__law_draw T.F__law_draw.kp T.b__law_draw .nil pass0 (pa_cons (pv 1) (pa_cons pe_int pa_nil))) pe_int (nomark _)) pa_nil)) (fun _ _ => rfl)) pa_nil)))) (pg_tup rfl (pgs_cons (pg_name (i := 5) sc_law.nd rfl (Or.inl rfl)) (pgs_cons (pg_name (i := 6) sc_law.nd rfl (Or.inl rfl)) pgs_nil))))
  (pss_cons (ps_if (pt_cmp (pc_notN (pe_call (G__law_tried) (hr.mono (by omega)) rfl T.m__law_tried T.F__law_tried.kp T.b__law_tried .nil pass0 (pa_cons (pv 5) (pa_cons (pv 6) pa_nil)))))
    (pss_one (ps_ret pe_bl))
    pss_nil)
  (pss_cons (ps_expr (pe_bm PySem.F.plainAttrs_list PySem.F.slot_list_append PySem.F.type_list_append mt_append (pv 2) (pa_cons (pe_tupN (pa_cons (pv 5) (pa_cons (pv 6) pa_nil))) pa_nil)))
  (pss_cons (ps_if (pt_cmpR op_gt (pe_call (G__law_draw) (hr.mono (by omega)) rfl T.m__law_draw T.F__law_draw.kp T.b__law_draw .nil pass0 (pa_cons (pv 1) (pa_cons pe_int pa_nil))) pe_int (nomark _))
    (pss_one (ps_set (i := 6) sc_law.nd rfl (Or.inl rfl) (pe_call (G__law_bent_codes) (hr.mono (by omega)) rfl T.m__law_bent_codes T.F__law_bent_codes.kp T.b__law_bent_codes .nil pass0 (pa_cons (pv 1) (pa_cons (pv 6) pa_nil)))))
    pss_nil)
  (pss_cons (ps_if (pt_cmpR op_eq (pe_call (G__law_draw) (hr.mono (by omega)) rfl T.m__law_draw T.F__law_draw.kp T.b__law_draw .nil pass0 (pa_cons (pv 1) (pa_cons pe_int pa_nil))) pe_int (nomark _))
    (pss_one (ps_set (i := 5) sc_law.nd rfl (Or.inl rfl) (pe_call (G__law_bent_owners) (hr.mono (by omega)) rfl T.m__law_bent_owners T.F__law_bent_owners.kp T.b__law_bent_owners .nil pass0 (pa_cons (pv 1) (pa_cons (pv 5) (pa_cons (pv 4) pa_nil))))))
    pss_nil)
  (pss_one (ps_if (pt_not (pt_val (pe_callG gd (ok__law_is T) (hr.mono (by omega)) rfl T.m__law_is T.F__law_is.kp T.b__law_is .nil pass0 (pa_cons (pe_call G__law_tried (hr.mono (by omega)) rfl T.m__law_tried T.F__law_tried.kp T.b__law_tried .nil pass0 (pa_cons (pv 5) (pa_cons (pv 6) pa_nil))) (pa_cons (pe_call G__law_due (hr.mono (by omega)) rfl T.m__law_due T.F__law_due.kp T.b__law_due .nil pass0 (pa_cons (pv 5) (pa_cons (pv 6) pa_nil))) pa_nil)))))
    (pss_one (ps_ret pe_bl))
    pss_nil)))))))))
  (pss_cons (ps_for PassesOwn.never rfl (pi_list (pv 2)) (pg_name (i := 7) sc_law.nd rfl (Or.inl rfl))
    (pss_one (ps_for PassesOwn.never rfl (pi_list (pv 2)) (pg_name (i := 8) sc_law.nd rfl (Or.inl rfl))
    (pss_cons (ps_set (i := 9) sc_law.nd rfl (Or.inl rfl) (pe_make T.K_Program G_Program_init (hr.mono (by omega)) rfl T.m_Program T.b_Program_init .nil passE0 (pa_cons (pe_ix ix_tup (pv 7) pe_int (fun _ _ => rfl)) (pa_cons (pe_ix ix_tup (pv 7) pe_int (fun _ _ => rfl)) pa_nil))))
  (pss_one (ps_if (L2.PW.pt (pw_or (pt_cmpR op_ne (pe_cmpR (op_eqI (E := E0) (ok_Program_eq T) T.eqf_Program T.eqi_Program T.b_Program_eq pass0 (hr.mono (by omega))) (pv 9) (pe_make T.K_Program G_Program_init (hr.mono (by omega)) rfl T.m_Program T.b_Program_init .nil passE0 (pa_cons (pe_ix ix_tup (pv 8) pe_int (fun _ _ => rfl)) (pa_cons (pe_ix ix_tup (pv 8) pe_int (fun _ _ => rfl)) pa_nil))) (nomark _)) (pe_cmpR (op_eqD hr.units) (pv 7) (pv 8) (nomark _)) (nomark _)) (pw_or (pt_cmpR (op_eqI (E := E0) (ok_Program_eq T) T.eqf_Program T.eqi_Program T.b_Program_eq pass0 (hr.mono (by omega))) (pv 9) (pv 7) (nomark _)) (pw_or1 (pt_cmpR (op_eqI (E := E0) (ok_Program_eq T) T.eqf_Program T.eqi_Program T.b_Program_eq pass0 (hr.mono (by omega))) (pv 9) (pe_make T.K_Web (G_Web_init) (hr.mono (by omega)) rfl T.m_Web T.b_Web_init .nil pass0 (pa_cons pe_int (pa_cons (pe_tupN pa_nil) pa_nil))) (nomark _))))))
    (pss_one (ps_ret pe_bl))
    pss_nil))))))
  (pss_one (ps_ret pe_bl)))))), ?_⟩
  walk_at "ws"
  refine ⟨s, ns, rfl, hs, hl, fun hd c H1 g1 hh1 => ?_⟩
  walk_at "ws"
  refine ⟨sz (by simp), fun l H2 hl2 g2 h2 => ?_⟩
  have hh2 := (g2 none).up.hand (hd, c) rfl hh1
  have nl_ : l ≠ hd ∧ l ≠ c := hh1.ne hl2
  walk_at "ws"
  refine i_rng1 (by decide) (by decide) ?_
  refine for_it walk_range (fun i σ H' => Hand H' hd c ∧ ∃ (ys : List V) (u3 u4 u5 u6 u7 u8 u9 : Option V), σ = [some (.ref s), some (.ref hd), some (.ref l), u3, u4, u5, u6, u7, u8, u9] ∧ H' l = some (.lst ys) ∧ ys.length ≤ i ∧ ∀ v ∈ ys, SpecAt a.c_Program H' v) ⟨hh2, [], _, _, _, _, _, _, _, rfl, h2, Nat.le_refl _, (fun _ h => nomatch h)⟩ (fun _ _ _ _ _ => trivial) ?_ ?_
  · rintro turn _ σ _ H3 ht ⟨hh3, ys, u3, u4, u5, u6, u7, u8, u9, rfl, h3, ly, hy⟩ ⟨rfl, rfl⟩
    clear g1 g2 hh1 hh2 hl2 h2 hs
    walk_at "ws"
    refine ⟨sz (by simp), fun l4 H4 hl4 g4 h4 => ?_⟩
    walk_at "ws"
    refine .inr ⟨_, rfl, ?_⟩
    obtain ⟨b, eb⟩ : ∃ b, b = decide ((0 : Int) + (turn : Int) = 0) := ⟨_, rfl⟩
    rw [← eb]
    obtain ⟨many, emany, q0, q1⟩ : ∃ many : Int, atI [V.int 3, V.int 7] (if b = true then 1 else 0) = some (.int many) ∧ 0 < many ∧ many ≤ 7 := by
      cases b
      · exact ⟨3, rfl, by decide, by decide⟩
      · exact ⟨7, rfl, by decide, by decide⟩
    refine r_ixL (SqL.of h4) emany ?_
    clear eb emany
    have hh4 := (g4 none).up.hand (hd, c) rfl hh3
    walk_at "ws"
    refine ⟨hd, c, many, rfl, hh4, by omega, by omega, fun r H5 r0 r1 g5 hh5 => ?_⟩
    walk_at "ws"
    obtain ⟨m, em⟩ : ∃ m, m = 1 + r := ⟨_, rfl⟩
    rw [← em]
    have m1 : 1 ≤ m := by omega
    have m7 : m ≤ 7 := by omega
    clear em
    refine ⟨sz (by simp), fun l6 H6 hl6 g6 h6 => ?_⟩
    have hh6 := (g6 none).up.hand (hd, c) rfl hh5
    have n6 : l6 ≠ hd ∧ l6 ≠ c := hh5.ne hl6
    walk_at "ws"
    refine ⟨hd, c, 8, rfl, hh6, by decide, by decide, fun r7 H7 r70 r71 g7 hh7 => ?_⟩
    have h7 := g7.keep l6 _ (fun q e => by cases e; exact n6) h6
    walk_at "ws"
    refine .inr ⟨_, rfl, ?_⟩
    obtain ⟨b2, eb2⟩ : ∃ b, b = decide (r7 = 0) := ⟨_, rfl⟩
    rw [← eb2]
    obtain ⟨most, emost, o0, o1⟩ : ∃ many : Int, atI [V.int 12, V.int 60] (if b2 = true then 1 else 0) = some (.int many) ∧ 0 ≤ many ∧ many ≤ 60 := by
      cases b2
      · exact ⟨12, rfl, by decide, by decide⟩
      · exact ⟨60, rfl, by decide, by decide⟩
    refine r_ixL (SqL.of h7) emost ?_
    clear eb2 emost
    walk_at "ws"
    refine ⟨hd, c, m, most, rfl, hh7, m1, m7, o0, o1, fun q op cp xs os cs H8 g8 hh8 rq ro rc al pr lcs => ?_⟩
    have g38 := ((((g4 _).trans g5).trans (g6 _)).trans g7).trans g8
    have hy8 : ∀ v ∈ ys, SpecAt a.c_Program H8 v := fun v hv => (hy v hv).ts g38.tups
    have h8 := g38.keep l _ (fun q e => by cases e; exact nl_) h3
    clear g4 g5 g6 g7 g8 g38 h4 h6 h7 hh4 hh5 hh6 hh7 hl4 hl6 n6 hh3 h3 hy r0 r1 r70 r71 q0 q1
    refine ⟨q, _, rfl, .inl rq, rfl, ?_⟩
    refine ⟨_, _, rfl, ?_⟩
    walk_at "ws"
    refine ⟨_, _, rfl, ?_⟩
    walk_at "ws"
    refine ⟨rfl, ?_⟩
    have ao : Ab a.c_Program (hd, c) H8 (.ref op) (tgI os) := .tup ro (ab_ints os)
    have ac : Ab a.c_Program (hd, c) H8 (.ref cp) (.tup cs) := .tup rc al
    walk_at "ws"
    refine ⟨(hd, c), _, _, _, _, rfl, ao, ac, fun v9 H9 g9 dv9 => ?_⟩
    rw [due_prog pr] at dv9
    have e9 : v9 = .non := by cases dv9; rfl
    subst e9
    clear dv9
    walk_at "ws"
    refine w_iteN (by simp) ?_
    walk_at "ws"
    have h9 := g9.all _ _ h8
    refine i_BM h9 ?_
    walk_at "ws"
    refine ⟨sz (by simp), fun t10 H10 ht10 g10 h10 => ?_⟩
    have h10l := (g10 none).all _ _ h9
    walk_at "ws"
    refine r_app h10l (by omega) ?_
    have g8A := g9.trans (g10 none)
    have tsA : Ts H10 (upd H10 l (.lst (ys ++ [.ref t10]))) := ts_put h10l
    have ts8 : Ts H8 (upd H10 l (.lst (ys ++ [.ref t10]))) := fun x xs r => tsA x xs (g8A.tups x xs r)
    have hA : upd H10 l (.lst (ys ++ [.ref t10])) l = some (.lst (ys ++ [.ref t10])) := upd_same
    have hhA : Hand (upd H10 l (.lst (ys ++ [.ref t10]))) hd c := by
      obtain ⟨w1, ⟨w2, w3⟩, w4, w5, w6⟩ := g8A.up.hand (hd, c) rfl hh8
      exact ⟨w1, ⟨w2, by rw [upd_ne nl_.2.symm]; exact w3⟩, w4, w5, by rw [upd_ne nl_.1.symm]; exact w6⟩
    have rtA : Rd (upd H10 l (.lst (ys ++ [.ref t10]))) t10 (.tup [.ref op, .ref cp]) := tsA _ _ (.inl h10)
    have hyA : ∀ v ∈ ys ++ [.ref t10], SpecAt a.c_Program (upd H10 l (.lst (ys ++ [.ref t10]))) v := fun v hv => by
      rcases List.mem_append.mp hv with z | z
      · exact (hy8 v z).ts ts8
      · have z : v = .ref t10 := by simpa using z
        exact ⟨t10, op, cp, os, xs, cs, z, rtA, ts8 _ _ ro, ts8 _ _ rc, pureTs_any pr.ok.pure (AbAll.ts ts8 _ _ pr.ok.pure al), pr⟩
    have roA := ts8 _ _ ro
    have rcA := ts8 _ _ rc
    have alA : AbAll a.c_Program (hd, c) (upd H10 l (.lst (ys ++ [.ref t10]))) xs cs := AbAll.ts ts8 _ _ pr.ok.pure al
    have lyA : (ys ++ [V.ref t10]).length ≤ turn + 1 := by rw [List.length_append, List.length_singleton]; omega
    generalize upd H10 l (.lst (ys ++ [.ref t10])) = HA at tsA ts8 hA hhA rtA hyA roA rcA alA ⊢
    generalize ys ++ [V.ref t10] = zs at hA hyA lyA ⊢
    clear tsA ts8 g8A h10l h10 g10 ht10 h9 g9 ao ac hy8 h8 al rc ro rq hh8 rtA
    walk_at "wn"
    try dsimp only
    refine w_seqM (fun σ H' => ∃ (cv : V) (tc : Tg), σ = [some (.ref s), some (.ref hd), some (.ref l), some (.int (0 + (turn : Int))), some (.int m), some (.ref op), some cv, u7, u8, u9] ∧ G (some (hd, c)) HA H' ∧ Hand H' hd c ∧ Ab a.c_Program (hd, c) H' cv tc) (fun N kN => ?_) ?_
    · walk_at "ws"
      refine ⟨hd, c, 3, rfl, hhA, by decide, by decide, fun z HB z0 z1 gB hhB => ?_⟩
      walk_at "ws"
      refine w_ite (fun e => ?_) (fun e => ?_)
      · walk_at "ws"
        refine ⟨hd, c, cp, xs, os, cs, rfl, hhB, gB.tups _ _ rcA, alA.g gB OH.s, pr, fun v t HC gC hhC av => ?_⟩
        walk_at "ws"
        exact kN _ _ ⟨v, t, rfl, gB.trans gC, hhC, av⟩
      · walk_at "ws"
        exact kN _ _ ⟨.ref cp, .tup cs, rfl, gB, hhB, .tup (gB.tups _ _ rcA) (alA.g gB OH.s)⟩
    rintro σ HB ⟨cv, tc, rfl, gB, hhB, acB⟩
    walk_at "wn"
    try dsimp only
    refine w_seqM (fun σ H' => ∃ (ov : V) (to : Tg), σ = [some (.ref s), some (.ref hd), some (.ref l), some (.int (0 + (turn : Int))), some (.int m), some ov, some cv, u7, u8, u9] ∧ G (some (hd, c)) HB H' ∧ Hand H' hd c ∧ Ab a.c_Program (hd, c) H' ov to) (fun N kN => ?_) ?_
    · walk_at "ws"
      refine ⟨hd, c, 3, rfl, hhB, by decide, by decide, fun z HC z0 z1 gC hhC => ?_⟩
      walk_at "ws"
      refine w_ite (fun e => ?_) (fun e => ?_)
      · walk_at "ws"
        refine ⟨hd, c, op, os, m, rfl, hhC, (gB.trans gC).tups _ _ roA, pr.o1, pr.o8, fun v t HD gD hhD av => ?_⟩
        walk_at "ws"
        exact kN _ _ ⟨v, t, rfl, gC.trans gD, hhD, av⟩
      · walk_at "ws"
        exact kN _ _ ⟨.ref op, tgI os, rfl, gC, hhC, .tup ((gB.trans gC).tups _ _ roA) (ab_ints os)⟩
    rintro σ HC ⟨ov, to, rfl, gC, hhC, aoC⟩
    have acC := acB.g gC OH.s
    have gAC := gB.trans gC
    walk_at "ws"
    refine ⟨(hd, c), ov, cv, to, tc, rfl, aoC, acC, fun v1 HD gD d1 => ?_⟩
    walk_at "ws"
    refine ⟨(hd, c), ov, cv, to, tc, rfl, aoC.n gD, acC.n gD, fun v2 HE gE d2 => ?_⟩
    walk_at "ws"
    refine ⟨v1, v2, _, rfl, dp_n d1 (nl_due _) gE, d2, shw_due to tc, ?_⟩
    have gAE := gAC.trans (gD.trans gE).up
    walk_at "ws"
    refine ⟨gAE.hand (hd, c) rfl hhA, zs, _, _, _, _, _, _, _, rfl, gAE.keep l _ (fun q e => by cases e; exact nl_) hA, lyA, fun v hv => (hyA v hv).ts gAE.tups⟩
  rintro σ H3 ⟨hh3, ys, u3, u4, u5, u6, u7, u8, u9, rfl, h3, ly, hy⟩
  clear hh2 hh1 g1 g2 hl2 h2 hs
  walk_at "ws"
  refine i_list (SqL.of h3) ?_
  refine for_it (walk_list (xs := ys)) (fun i σ H' => G none H3 H' ∧ ∃ u3 u4 u5 u6 u7 u8 u9, σ = [some (.ref s), some (.ref hd), some (.ref l), u3, u4, u5, u6, u7, u8, u9]) ⟨G.refl, _, _, _, _, _, _, _, rfl⟩ (fun i σ H' _ h => SqL.of (h.1.all _ _ h3)) ?_ ?_
  · rintro i x σ H4 H4' hi ⟨g4, u3, u4, u5, u6, u7, u8, u9, rfl⟩ ⟨e4, hx⟩
    subst e4
    obtain ⟨q1, op1, cp1, os1, xs1, cs1, rfl, rq1, ro1, rc1, al1, pr1⟩ := hy x (List.mem_of_getElem? hx)
    walk_at "ws"
    refine i_list (SqL.of (g4.all _ _ h3)) ?_
    refine for_it (walk_list (xs := ys)) (fun i σ H' => G none H3 H' ∧ ∃ u3 u4 u5 u6 u8 u9, σ = [some (.ref s), some (.ref hd), some (.ref l), u3, u4, u5, u6, some (.ref q1), u8, u9]) ⟨g4, _, _, _, _, _, _, rfl⟩ (fun i σ H' _ h => SqL.of (h.1.all _ _ h3)) ?_ ?_
    · rintro i2 x2 σ H5 H5' hi2 ⟨g5, u3, u4, u5, u6, u8, u9, rfl⟩ ⟨e5, hx2⟩
      subst e5
      obtain ⟨q2, op2, cp2, os2, xs2, cs2, rfl, rq2, ro2, rc2, al2, pr2⟩ := hy x2 (List.mem_of_getElem? hx2)
      have D1 : ∀ {H' : Hp}, G none H3 H' → Ab a.c_Program (q1, q1) H' (.ref op1) (tgI os1) ∧ Ab a.c_Program (q1, q1) H' (.ref cp1) (.tup cs1) := fun g => ⟨.tup (g.tups _ _ ro1) (ab_ints os1), .tup (g.tups _ _ rc1) (al1.n g)⟩
      have D2 : ∀ {H' : Hp}, G none H3 H' → Ab a.c_Program (q2, q2) H' (.ref op2) (tgI os2) ∧ Ab a.c_Program (q2, q2) H' (.ref cp2) (.tup cs2) := fun g => ⟨.tup (g.tups _ _ ro2) (ab_ints os2), .tup (g.tups _ _ rc2) (al2.n g)⟩
      have pu : ∀ {os : List Int} {cs : List Tg}, IsProg os cs → pureT (.tup cs) = true := fun pr => by rw [pureT]; exact pr.ok.pure
      walk_at "ws"
      refine r_ixT (.inl (g5.tups _ _ rq1)) (v := .ref op1) rfl ?_
      walk_at "ws"
      refine r_ixT (.inl (g5.tups _ _ rq1)) (v := .ref cp1) rfl ?_
      walk_at "ws"
      refine make_prog (D1 g5).1 (D1 g5).2 (fun _ x6 dx6 H6 hx6 g6 h6 => ?_) (fun p y ee => by rw [due_prog pr1] at ee; cases ee)
      have g36 := g5.trans (g6 none)
      walk_at "ws"
      refine r_ixT (.inl (g36.tups _ _ rq2)) (v := .ref op2) rfl ?_
      walk_at "ws"
      refine r_ixT (.inl (g36.tups _ _ rq2)) (v := .ref cp2) rfl ?_
      walk_at "ws"
      refine make_prog (D2 g36).1 (D2 g36).2 (fun _ x7 dx7 H7 hx7 g7 h7 => ?_) (fun p y ee => by rw [due_prog pr2] at ee; cases ee)
      have g37 := g36.trans (g7 none)
      have h76 := (g7 none).all _ _ h6
      have so1 := lay_shaped pr1.layO (by decide)
      have sc1 := lay_shaped pr1.layC (by decide)
      have so2 := lay_shaped pr2.layO (by decide)
      have sc2 := lay_shaped pr2.layC (by decide)
      refine ⟨x6, dx6, _, .ref a.c_Program, rfl, h76, ty_ins T.ic_Program h7, by simp [PySem.W.notFirst], .inl ⟨x6, x7, _, _, _, _, rfl, ⟨dx6, _, _, h76, Ab.dpu _ _ (pureO os1) (D1 g37).1, Ab.dpu _ _ (pu pr1) (D1 g37).2, so1, sc1⟩, ⟨dx7, _, _, h7, Ab.dpu _ _ (pureO os2) (D2 g37).1, Ab.dpu _ _ (pu pr2) (D2 g37).2, so2, sc2⟩, ⟨_, rfl, ?_⟩⟩⟩
      walk_at "ws"
      have dq : ∀ {q op cp : Addr} {os : List Int} {cs : List Tg} {H' : Hp}, Rd H' q (.tup [.ref op, .ref cp]) → Ab a.c_Program (q, q) H' (.ref op) (tgI os) → Ab a.c_Program (q, q) H' (.ref cp) (.tup cs) → pureT (.tup cs) = true → Dp K H' (.ref q) (.tuple [tgD (tgI os), tgD (.tup cs)]) :=
        fun r a1 a2 e => .tup (.inl r) (.cons (Ab.dpu _ _ (pureO _) a1) (.cons (Ab.dpu _ _ e a2) .nil))
      have sh2 : ∀ {os : List Int} {cs : List Tg}, IsProg os cs → SeqAt.shaped (.tuple [tgD (tgI os), tgD (.tup cs)]) = true := fun {os cs} pr => by
        have := lay_shaped (n := 4) (t := .tup [tgI os, .tup cs]) (fun t ht => by
          rcases List.mem_cons.mp ht with e | e
          · rw [e]
            intro u hu
            obtain ⟨i, _, rfl⟩ := List.mem_map.mp hu
            trivial
          · have e : t = .tup cs := by simpa using e
            rw [e]; exact pr.layC) (by decide)
        exact this
      refine ⟨_, _, dq (g37.tups _ _ rq1) (D1 g37).1 (D1 g37).2 (pu pr1), dq (g37.tups _ _ rq2) (D2 g37).1 (D2 g37).2 (pu pr2), sh2 pr1, sh2 pr2, ?_⟩
      have ee : PyData.eqv (.tuple [tgD (tgI os1), tgD (.tup cs1)]) (.tuple [tgD (tgI os2), tgD (.tup cs2)]) = (PyData.eqv (tgD (tgI os1)) (tgD (tgI os2)) && PyData.eqv (tgD (.tup cs1)) (tgD (.tup cs2))) := by
        simp [PyData.eqv, PyData.eqvAll]
      rw [ee]
      generalize (PyData.eqv (tgD (tgI os1)) (tgD (tgI os2)) && PyData.eqv (tgD (.tup cs1)) (tgD (.tup cs2))) = bb
      walk_at "ws"
      refine w_iteN (by simp) ?_
      walk_at "ws"
      refine ⟨x6, dx6, _, .type "tuple", rfl, h76, tyx_tup (K := K) (.inl (g37.tups _ _ rq1)), nf_tuple, .inr ⟨x6, _, _, rfl, tyx_tup (K := K) (.inl (g37.tups _ _ rq1)), kt, ⟨_, rfl, ?_⟩⟩⟩
      walk_at "ws"
      refine ⟨sz (by simp), fun p8 H8 hp8 g8 h8 => ?_⟩
      walk_at "ws"
      refine make_web (.inl h8) (fun x9 dx9 fs9 H9 g9 h9 => ?_)
      have g79 := (g8 none).trans (g9 none)
      refine ⟨x6, dx6, _, .ref a.c_Web, rfl, g79.all _ _ h76, ty_ins T.ic_Web h9, nf_of T.wk, .inr ⟨x6, _, _, rfl, ty_ins T.ic_Web h9, T.wk, ⟨_, rfl, ?_⟩⟩⟩
      walk_at "ws"
      exact ⟨g37.trans g79, _, _, _, _, _, _, rfl⟩
    · rintro σ H5 ⟨g5, u3, u4, u5, u6, u8, u9, rfl⟩
      exact ⟨g5, _, _, _, _, _, _, _, rfl⟩
  · rintro σ H4 ⟨g4, u3, u4, u5, u6, u7, u8, u9, rfl⟩
    walk_at "ws"
    exact k _

end
end Mine
/-! ## KN -/
end
namespace Mine
open PySem L2 GA
theorem kit_sub {K : PySem.W.Frag} {C D : Addr} (h : PySem.W.subIn K (.ref C) (.ref D) = some true) (hc : (PySem.W.clsIn K D).isSome = true) (ht : PySem.W.typeIn K (.ref D) = some (.type "type")) : PySem.W.kitOne K (.ref C) (.ref D) = some true := by
  unfold PySem.W.kitOne
  split
  · rfl
  · have z : (PySem.W.typeIn K (.ref D) == some (.type "type")) = true := by rw [ht]; exact beq_self_eq_true _
    show (if ((PySem.W.clsIn K D).isSome && PySem.W.typeIn K (.ref D) == some (.type "type")) = true then PySem.W.subIn K (.ref C) (.ref D) else none) = some true
    rw [hc, z, Bool.and_self, if_pos rfl]
    exact h
theorem kit_off {K : PySem.W.Frag} {C D : Addr} (ne : ((Value.ref C : Value) == .ref D) = false) (h : PySem.W.subIn K (.ref C) (.ref D) = some false) (hc : (PySem.W.clsIn K D).isSome = true) (ht : PySem.W.typeIn K (.ref D) = some (.type "type")) : PySem.W.kitOne K (.ref C) (.ref D) = some false := by
  unfold PySem.W.kitOne
  rw [ne, if_neg Bool.false_ne_true]
  have z : (PySem.W.typeIn K (.ref D) == some (.type "type")) = true := by rw [ht]; exact beq_self_eq_true _
  show (if ((PySem.W.clsIn K D).isSome && PySem.W.typeIn K (.ref D) == some (.type "type")) = true then PySem.W.subIn K (.ref C) (.ref D) else none) = some false
  rw [hc, z, Bool.and_self, if_pos rfl]
  exact h
/-- what the head finds on the heap is what the proofs lean on -/
theorem all_mk {l : PySem.W.OpenLaw} {w : World} {K : PySem.W.Frag} {h : Heap} {mg : Str → Option Value} {fa : Addr} (X : K.In h) (G : h.Ns mainGlobals mg) (hfa : mg "law" = some (.ref fa))
    {ff_BadWeb_init : Addr} {od_BadWeb_init an_BadWeb_init : Option Addr} {sl_BadWeb_init : Array (Option Value)} {oc_BadWeb_init kV_BadWeb_init dc_BadWeb_init pm_BadWeb_init cd_BadWeb_init ct_BadWeb_init : Value}
    {ff_BadProgram_init : Addr} {od_BadProgram_init an_BadProgram_init : Option Addr} {sl_BadProgram_init : Array (Option Value)} {oc_BadProgram_init kV_BadProgram_init dc_BadProgram_init pm_BadProgram_init cd_BadProgram_init ct_BadProgram_init : Value}
    {ff_is_integer : Addr} {od_is_integer an_is_integer : Option Addr} {sl_is_integer : Array (Option Value)} {oc_is_integer kV_is_integer dc_is_integer pm_is_integer cd_is_integer ct_is_integer : Value}
    {ff_is_between : Addr} {od_is_between an_is_between : Option Addr} {sl_is_between : Array (Option Value)} {oc_is_between kV_is_between dc_is_between pm_is_between cd_is_between ct_is_between : Value}
    {ff_is_below : Addr} {od_is_below an_is_below : Option Addr} {sl_is_below : Array (Option Value)} {oc_is_below kV_is_below dc_is_below pm_is_below cd_is_below ct_is_below : Value}
    {ff_is_tuple_of : Addr} {od_is_tuple_of an_is_tuple_of : Option Addr} {sl_is_tuple_of : Array (Option Value)} {oc_is_tuple_of kV_is_tuple_of dc_is_tuple_of pm_is_tuple_of cd_is_tuple_of ct_is_tuple_of : Value}
    {ff_are_below : Addr} {od_are_below an_are_below : Option Addr} {sl_are_below : Array (Option Value)} {oc_are_below kV_are_below dc_are_below pm_are_below cd_are_below ct_are_below : Value}
    {ff_is_unlike_pair : Addr} {od_is_unlike_pair an_is_unlike_pair : Option Addr} {sl_is_unlike_pair : Array (Option Value)} {oc_is_unlike_pair kV_is_unlike_pair dc_is_unlike_pair pm_is_unlike_pair cd_is_unlike_pair ct_is_unlike_pair : Value}
    {ff_Web_init : Addr} {od_Web_init an_Web_init : Option Addr} {sl_Web_init : Array (Option Value)} {oc_Web_init kV_Web_init dc_Web_init pm_Web_init cd_Web_init ct_Web_init : Value}
    {ff_Web_eq : Addr} {od_Web_eq an_Web_eq : Option Addr} {sl_Web_eq : Array (Option Value)} {oc_Web_eq kV_Web_eq dc_Web_eq pm_Web_eq cd_Web_eq ct_Web_eq : Value}
    {ff_first_wrong_wire : Addr} {od_first_wrong_wire an_first_wrong_wire : Option Addr} {sl_first_wrong_wire : Array (Option Value)} {oc_first_wrong_wire kV_first_wrong_wire dc_first_wrong_wire pm_first_wrong_wire cd_first_wrong_wire ct_first_wrong_wire : Value}
    {ff_Program_init : Addr} {od_Program_init an_Program_init : Option Addr} {sl_Program_init : Array (Option Value)} {oc_Program_init kV_Program_init dc_Program_init pm_Program_init cd_Program_init ct_Program_init : Value}
    {ff_Program_eq : Addr} {od_Program_eq an_Program_eq : Option Addr} {sl_Program_eq : Array (Option Value)} {oc_Program_eq kV_Program_eq dc_Program_eq pm_Program_eq cd_Program_eq ct_Program_eq : Value}
    {ff_check_program : Addr} {od_check_program an_check_program : Option Addr} {sl_check_program : Array (Option Value)} {oc_check_program kV_check_program dc_check_program pm_check_program cd_check_program ct_check_program : Value}
    {ff_is_row : Addr} {od_is_row an_is_row : Option Addr} {sl_is_row : Array (Option Value)} {oc_is_row kV_is_row dc_is_row pm_is_row cd_is_row ct_is_row : Value}
    {ff_fits : Addr} {od_fits an_fits : Option Addr} {sl_fits : Array (Option Value)} {oc_fits kV_fits dc_fits pm_fits cd_fits ct_fits : Value}
    {ff__law_pool : Addr} {od__law_pool an__law_pool : Option Addr} {sl__law_pool : Array (Option Value)} {oc__law_pool kV__law_pool dc__law_pool pm__law_pool cd__law_pool ct__law_pool : Value}
    {ff__law_draw : Addr} {od__law_draw an__law_draw : Option Addr} {sl__law_draw : Array (Option Value)} {oc__law_draw kV__law_draw dc__law_draw pm__law_draw cd__law_draw ct__law_draw : Value}
    {ff__law_deep : Addr} {od__law_deep an__law_deep : Option Addr} {sl__law_deep : Array (Option Value)} {oc__law_deep kV__law_deep dc__law_deep pm__law_deep cd__law_deep ct__law_deep : Value}
    {ff__law_is : Addr} {od__law_is an__law_is : Option Addr} {sl__law_is : Array (Option Value)} {oc__law_is kV__law_is dc__law_is pm__law_is cd__law_is ct__law_is : Value}
    {ff__law_row : Addr} {od__law_row an__law_row : Option Addr} {sl__law_row : Array (Option Value)} {oc__law_row kV__law_row dc__law_row pm__law_row cd__law_row ct__law_row : Value}
    {ff__law_program : Addr} {od__law_program an__law_program : Option Addr} {sl__law_program : Array (Option Value)} {oc__law_program kV__law_program dc__law_program pm__law_program cd__law_program ct__law_program : Value}
    {ff__law_is_int : Addr} {od__law_is_int an__law_is_int : Option Addr} {sl__law_is_int : Array (Option Value)} {oc__law_is_int kV__law_is_int dc__law_is_int pm__law_is_int cd__law_is_int ct__law_is_int : Value}
    {ff__law_is_row : Addr} {od__law_is_row an__law_is_row : Option Addr} {sl__law_is_row : Array (Option Value)} {oc__law_is_row kV__law_is_row dc__law_is_row pm__law_is_row cd__law_is_row ct__law_is_row : Value}
    {ff__law_due : Addr} {od__law_due an__law_due : Option Addr} {sl__law_due : Array (Option Value)} {oc__law_due kV__law_due dc__law_due pm__law_due cd__law_due ct__law_due : Value}
    {ff__law_tried : Addr} {od__law_tried an__law_tried : Option Addr} {sl__law_tried : Array (Option Value)} {oc__law_tried kV__law_tried dc__law_tried pm__law_tried cd__law_tried ct__law_tried : Value}
    {ff__law_bent_row : Addr} {od__law_bent_row an__law_bent_row : Option Addr} {sl__law_bent_row : Array (Option Value)} {oc__law_bent_row kV__law_bent_row dc__law_bent_row pm__law_bent_row cd__law_bent_row ct__law_bent_row : Value}
    {ff__law_bent_codes : Addr} {od__law_bent_codes an__law_bent_codes : Option Addr} {sl__law_bent_codes : Array (Option Value)} {oc__law_bent_codes kV__law_bent_codes dc__law_bent_codes pm__law_bent_codes cd__law_bent_codes ct__law_bent_codes : Value}
    {ff__law_bent_owners : Addr} {od__law_bent_owners an__law_bent_owners : Option Addr} {sl__law_bent_owners : Array (Option Value)} {oc__law_bent_owners kV__law_bent_owners dc__law_bent_owners pm__law_bent_owners cd__law_bent_owners ct__law_bent_owners : Value}
    {ff_law : Addr} {od_law an_law : Option Addr} {sl_law : Array (Option Value)} {oc_law kV_law dc_law pm_law cd_law ct_law : Value}
    {C_GrowError : Addr}
    {C_BadWeb : Addr}
    {C_BadProgram : Addr}
    {C_Web : Addr}
    {C_Program : Addr}
    {xnm xq : Str} {xN : Addr} {xbs : List Value} {xsn : List Str} {xsub : List Value} {xab : Bool} {xcol : Option Bool} {xdd : Option Addr} {x0 x1 x2 x3 x5 : Option Value}
    {tk_MOST_MACHINES : Tok}
    {tk_MOST_CELLS : Tok}
    {tk_MOST_ROWS : Tok}
    {tk_MOST_SET : Tok}
    {tk_REGISTERS : Tok}
    {o_FORMS : Addr} {es_FORMS : Array DictEntry} {en_FORMS : Nat}
    (aC_GrowError : PySem.W.nsIn K mainGlobals "GrowError" = some (some (.ref C_GrowError)))
    (aC_BadWeb : PySem.W.nsIn K mainGlobals "BadWeb" = some (some (.ref C_BadWeb)))
    (aC_BadProgram : PySem.W.nsIn K mainGlobals "BadProgram" = some (some (.ref C_BadProgram)))
    (aC_Web : PySem.W.nsIn K mainGlobals "Web" = some (some (.ref C_Web)))
    (aC_Program : PySem.W.nsIn K mainGlobals "Program" = some (some (.ref C_Program)))
    (a_BadWeb_init : PySem.W.findIn K (.ref C_BadWeb) "__init__" = some (some (.ref ff_BadWeb_init)))
    (i_BadWeb_init : PySem.W.isFn K (.ref ff_BadWeb_init) = true)
    (l_BadWeb_init : K.lookup ff_BadWeb_init = some ⟨oc_BadWeb_init, od_BadWeb_init, .func (PySem.W.fnOf "__init__" "BadWeb.__init__" (defArgs s_BadWeb_init) (defBody s_BadWeb_init) (defScope s_BadWeb_init) .none kV_BadWeb_init dc_BadWeb_init pm_BadWeb_init an_BadWeb_init cd_BadWeb_init ct_BadWeb_init), sl_BadWeb_init⟩)
    (c_BadWeb_init : PySem.W.codeIn K cd_BadWeb_init "BadWeb.__init__" = true)
    (k_BadWeb_init : PySem.W.keepIn K (.ref ff_BadWeb_init) = true)
    (a_BadProgram_init : PySem.W.findIn K (.ref C_BadProgram) "__init__" = some (some (.ref ff_BadProgram_init)))
    (i_BadProgram_init : PySem.W.isFn K (.ref ff_BadProgram_init) = true)
    (l_BadProgram_init : K.lookup ff_BadProgram_init = some ⟨oc_BadProgram_init, od_BadProgram_init, .func (PySem.W.fnOf "__init__" "BadProgram.__init__" (defArgs s_BadProgram_init) (defBody s_BadProgram_init) (defScope s_BadProgram_init) .none kV_BadProgram_init dc_BadProgram_init pm_BadProgram_init an_BadProgram_init cd_BadProgram_init ct_BadProgram_init), sl_BadProgram_init⟩)
    (c_BadProgram_init : PySem.W.codeIn K cd_BadProgram_init "BadProgram.__init__" = true)
    (k_BadProgram_init : PySem.W.keepIn K (.ref ff_BadProgram_init) = true)
    (a_is_integer : PySem.W.nsIn K mainGlobals "is_integer" = some (some (.ref ff_is_integer)))
    (l_is_integer : K.lookup ff_is_integer = some ⟨oc_is_integer, od_is_integer, .func (PySem.W.fnOf "is_integer" "is_integer" (defArgs s_is_integer) (defBody s_is_integer) (defScope s_is_integer) .none kV_is_integer dc_is_integer pm_is_integer an_is_integer cd_is_integer ct_is_integer), sl_is_integer⟩)
    (c_is_integer : PySem.W.codeIn K cd_is_integer "is_integer" = true)
    (k_is_integer : PySem.W.keepIn K (.ref ff_is_integer) = true)
    (a_is_between : PySem.W.nsIn K mainGlobals "is_between" = some (some (.ref ff_is_between)))
    (l_is_between : K.lookup ff_is_between = some ⟨oc_is_between, od_is_between, .func (PySem.W.fnOf "is_between" "is_between" (defArgs s_is_between) (defBody s_is_between) (defScope s_is_between) .none kV_is_between dc_is_between pm_is_between an_is_between cd_is_between ct_is_between), sl_is_between⟩)
    (c_is_between : PySem.W.codeIn K cd_is_between "is_between" = true)
    (k_is_between : PySem.W.keepIn K (.ref ff_is_between) = true)
    (a_is_below : PySem.W.nsIn K mainGlobals "is_below" = some (some (.ref ff_is_below)))
    (l_is_below : K.lookup ff_is_below = some ⟨oc_is_below, od_is_below, .func (PySem.W.fnOf "is_below" "is_below" (defArgs s_is_below) (defBody s_is_below) (defScope s_is_below) .none kV_is_below dc_is_below pm_is_below an_is_below cd_is_below ct_is_below), sl_is_below⟩)
    (c_is_below : PySem.W.codeIn K cd_is_below "is_below" = true)
    (k_is_below : PySem.W.keepIn K (.ref ff_is_below) = true)
    (a_is_tuple_of : PySem.W.nsIn K mainGlobals "is_tuple_of" = some (some (.ref ff_is_tuple_of)))
    (l_is_tuple_of : K.lookup ff_is_tuple_of = some ⟨oc_is_tuple_of, od_is_tuple_of, .func (PySem.W.fnOf "is_tuple_of" "is_tuple_of" (defArgs s_is_tuple_of) (defBody s_is_tuple_of) (defScope s_is_tuple_of) .none kV_is_tuple_of dc_is_tuple_of pm_is_tuple_of an_is_tuple_of cd_is_tuple_of ct_is_tuple_of), sl_is_tuple_of⟩)
    (c_is_tuple_of : PySem.W.codeIn K cd_is_tuple_of "is_tuple_of" = true)
    (k_is_tuple_of : PySem.W.keepIn K (.ref ff_is_tuple_of) = true)
    (a_are_below : PySem.W.nsIn K mainGlobals "are_below" = some (some (.ref ff_are_below)))
    (l_are_below : K.lookup ff_are_below = some ⟨oc_are_below, od_are_below, .func (PySem.W.fnOf "are_below" "are_below" (defArgs s_are_below) (defBody s_are_below) (defScope s_are_below) .none kV_are_below dc_are_below pm_are_below an_are_below cd_are_below ct_are_below), sl_are_below⟩)
    (c_are_below : PySem.W.codeIn K cd_are_below "are_below" = true)
    (k_are_below : PySem.W.keepIn K (.ref ff_are_below) = true)
    (a_is_unlike_pair : PySem.W.nsIn K mainGlobals "is_unlike_pair" = some (some (.ref ff_is_unlike_pair)))
    (l_is_unlike_pair : K.lookup ff_is_unlike_pair = some ⟨oc_is_unlike_pair, od_is_unlike_pair, .func (PySem.W.fnOf "is_unlike_pair" "is_unlike_pair" (defArgs s_is_unlike_pair) (defBody s_is_unlike_pair) (defScope s_is_unlike_pair) .none kV_is_unlike_pair dc_is_unlike_pair pm_is_unlike_pair an_is_unlike_pair cd_is_unlike_pair ct_is_unlike_pair), sl_is_unlike_pair⟩)
    (c_is_unlike_pair : PySem.W.codeIn K cd_is_unlike_pair "is_unlike_pair" = true)
    (k_is_unlike_pair : PySem.W.keepIn K (.ref ff_is_unlike_pair) = true)
    (a_Web_init : PySem.W.findIn K (.ref C_Web) "__init__" = some (some (.ref ff_Web_init)))
    (i_Web_init : PySem.W.isFn K (.ref ff_Web_init) = true)
    (l_Web_init : K.lookup ff_Web_init = some ⟨oc_Web_init, od_Web_init, .func (PySem.W.fnOf "__init__" "Web.__init__" (defArgs s_Web_init) (defBody s_Web_init) (defScope s_Web_init) .none kV_Web_init dc_Web_init pm_Web_init an_Web_init cd_Web_init ct_Web_init), sl_Web_init⟩)
    (c_Web_init : PySem.W.codeIn K cd_Web_init "Web.__init__" = true)
    (k_Web_init : PySem.W.keepIn K (.ref ff_Web_init) = true)
    (a_Web_eq : PySem.W.findIn K (.ref C_Web) "__eq__" = some (some (.ref ff_Web_eq)))
    (i_Web_eq : PySem.W.isFn K (.ref ff_Web_eq) = true)
    (l_Web_eq : K.lookup ff_Web_eq = some ⟨oc_Web_eq, od_Web_eq, .func (PySem.W.fnOf "__eq__" "Web.__eq__" (defArgs s_Web_eq) (defBody s_Web_eq) (defScope s_Web_eq) .none kV_Web_eq dc_Web_eq pm_Web_eq an_Web_eq cd_Web_eq ct_Web_eq), sl_Web_eq⟩)
    (c_Web_eq : PySem.W.codeIn K cd_Web_eq "Web.__eq__" = true)
    (k_Web_eq : PySem.W.keepIn K (.ref ff_Web_eq) = true)
    (a_first_wrong_wire : PySem.W.nsIn K mainGlobals "first_wrong_wire" = some (some (.ref ff_first_wrong_wire)))
    (l_first_wrong_wire : K.lookup ff_first_wrong_wire = some ⟨oc_first_wrong_wire, od_first_wrong_wire, .func (PySem.W.fnOf "first_wrong_wire" "first_wrong_wire" (defArgs s_first_wrong_wire) (defBody s_first_wrong_wire) (defScope s_first_wrong_wire) .none kV_first_wrong_wire dc_first_wrong_wire pm_first_wrong_wire an_first_wrong_wire cd_first_wrong_wire ct_first_wrong_wire), sl_first_wrong_wire⟩)
    (c_first_wrong_wire : PySem.W.codeIn K cd_first_wrong_wire "first_wrong_wire" = true)
    (k_first_wrong_wire : PySem.W.keepIn K (.ref ff_first_wrong_wire) = true)
    (a_Program_init : PySem.W.findIn K (.ref C_Program) "__init__" = some (some (.ref ff_Program_init)))
    (i_Program_init : PySem.W.isFn K (.ref ff_Program_init) = true)
    (l_Program_init : K.lookup ff_Program_init = some ⟨oc_Program_init, od_Program_init, .func (PySem.W.fnOf "__init__" "Program.__init__" (defArgs s_Program_init) (defBody s_Program_init) (defScope s_Program_init) .none kV_Program_init dc_Program_init pm_Program_init an_Program_init cd_Program_init ct_Program_init), sl_Program_init⟩)
    (c_Program_init : PySem.W.codeIn K cd_Program_init "Program.__init__" = true)
    (k_Program_init : PySem.W.keepIn K (.ref ff_Program_init) = true)
    (a_Program_eq : PySem.W.findIn K (.ref C_Program) "__eq__" = some (some (.ref ff_Program_eq)))
    (i_Program_eq : PySem.W.isFn K (.ref ff_Program_eq) = true)
    (l_Program_eq : K.lookup ff_Program_eq = some ⟨oc_Program_eq, od_Program_eq, .func (PySem.W.fnOf "__eq__" "Program.__eq__" (defArgs s_Program_eq) (defBody s_Program_eq) (defScope s_Program_eq) .none kV_Program_eq dc_Program_eq pm_Program_eq an_Program_eq cd_Program_eq ct_Program_eq), sl_Program_eq⟩)
    (c_Program_eq : PySem.W.codeIn K cd_Program_eq "Program.__eq__" = true)
    (k_Program_eq : PySem.W.keepIn K (.ref ff_Program_eq) = true)
    (a_check_program : PySem.W.nsIn K mainGlobals "check_program" = some (some (.ref ff_check_program)))
    (l_check_program : K.lookup ff_check_program = some ⟨oc_check_program, od_check_program, .func (PySem.W.fnOf "check_program" "check_program" (defArgs s_check_program) (defBody s_check_program) (defScope s_check_program) .none kV_check_program dc_check_program pm_check_program an_check_program cd_check_program ct_check_program), sl_check_program⟩)
    (c_check_program : PySem.W.codeIn K cd_check_program "check_program" = true)
    (k_check_program : PySem.W.keepIn K (.ref ff_check_program) = true)
    (a_is_row : PySem.W.nsIn K mainGlobals "is_row" = some (some (.ref ff_is_row)))
    (l_is_row : K.lookup ff_is_row = some ⟨oc_is_row, od_is_row, .func (PySem.W.fnOf "is_row" "is_row" (defArgs s_is_row) (defBody s_is_row) (defScope s_is_row) .none kV_is_row dc_is_row pm_is_row an_is_row cd_is_row ct_is_row), sl_is_row⟩)
    (c_is_row : PySem.W.codeIn K cd_is_row "is_row" = true)
    (k_is_row : PySem.W.keepIn K (.ref ff_is_row) = true)
    (a_fits : PySem.W.nsIn K mainGlobals "fits" = some (some (.ref ff_fits)))
    (l_fits : K.lookup ff_fits = some ⟨oc_fits, od_fits, .func (PySem.W.fnOf "fits" "fits" (defArgs s_fits) (defBody s_fits) (defScope s_fits) .none kV_fits dc_fits pm_fits an_fits cd_fits ct_fits), sl_fits⟩)
    (c_fits : PySem.W.codeIn K cd_fits "fits" = true)
    (k_fits : PySem.W.keepIn K (.ref ff_fits) = true)
    (a__law_pool : PySem.W.nsIn K mainGlobals "_law_pool" = some (some (.ref ff__law_pool)))
    (l__law_pool : K.lookup ff__law_pool = some ⟨oc__law_pool, od__law_pool, .func (PySem.W.fnOf "_law_pool" "_law_pool" (defArgs s__law_pool) (defBody s__law_pool) (defScope s__law_pool) .none kV__law_pool dc__law_pool pm__law_pool an__law_pool cd__law_pool ct__law_pool), sl__law_pool⟩)
    (c__law_pool : PySem.W.codeIn K cd__law_pool "_law_pool" = true)
    (k__law_pool : PySem.W.keepIn K (.ref ff__law_pool) = true)
    (a__law_draw : PySem.W.nsIn K mainGlobals "_law_draw" = some (some (.ref ff__law_draw)))
    (l__law_draw : K.lookup ff__law_draw = some ⟨oc__law_draw, od__law_draw, .func (PySem.W.fnOf "_law_draw" "_law_draw" (defArgs s__law_draw) (defBody s__law_draw) (defScope s__law_draw) .none kV__law_draw dc__law_draw pm__law_draw an__law_draw cd__law_draw ct__law_draw), sl__law_draw⟩)
    (c__law_draw : PySem.W.codeIn K cd__law_draw "_law_draw" = true)
    (k__law_draw : PySem.W.keepIn K (.ref ff__law_draw) = true)
    (a__law_deep : PySem.W.nsIn K mainGlobals "_law_deep" = some (some (.ref ff__law_deep)))
    (l__law_deep : K.lookup ff__law_deep = some ⟨oc__law_deep, od__law_deep, .func (PySem.W.fnOf "_law_deep" "_law_deep" (defArgs s__law_deep) (defBody s__law_deep) (defScope s__law_deep) .none kV__law_deep dc__law_deep pm__law_deep an__law_deep cd__law_deep ct__law_deep), sl__law_deep⟩)
    (c__law_deep : PySem.W.codeIn K cd__law_deep "_law_deep" = true)
    (k__law_deep : PySem.W.keepIn K (.ref ff__law_deep) = true)
    (a__law_is : PySem.W.nsIn K mainGlobals "_law_is" = some (some (.ref ff__law_is)))
    (l__law_is : K.lookup ff__law_is = some ⟨oc__law_is, od__law_is, .func (PySem.W.fnOf "_law_is" "_law_is" (defArgs s__law_is) (defBody s__law_is) (defScope s__law_is) .none kV__law_is dc__law_is pm__law_is an__law_is cd__law_is ct__law_is), sl__law_is⟩)
    (c__law_is : PySem.W.codeIn K cd__law_is "_law_is" = true)
    (k__law_is : PySem.W.keepIn K (.ref ff__law_is) = true)
    (a__law_row : PySem.W.nsIn K mainGlobals "_law_row" = some (some (.ref ff__law_row)))
    (l__law_row : K.lookup ff__law_row = some ⟨oc__law_row, od__law_row, .func (PySem.W.fnOf "_law_row" "_law_row" (defArgs s__law_row) (defBody s__law_row) (defScope s__law_row) .none kV__law_row dc__law_row pm__law_row an__law_row cd__law_row ct__law_row), sl__law_row⟩)
    (c__law_row : PySem.W.codeIn K cd__law_row "_law_row" = true)
    (k__law_row : PySem.W.keepIn K (.ref ff__law_row) = true)
    (a__law_program : PySem.W.nsIn K mainGlobals "_law_program" = some (some (.ref ff__law_program)))
    (l__law_program : K.lookup ff__law_program = some ⟨oc__law_program, od__law_program, .func (PySem.W.fnOf "_law_program" "_law_program" (defArgs s__law_program) (defBody s__law_program) (defScope s__law_program) .none kV__law_program dc__law_program pm__law_program an__law_program cd__law_program ct__law_program), sl__law_program⟩)
    (c__law_program : PySem.W.codeIn K cd__law_program "_law_program" = true)
    (k__law_program : PySem.W.keepIn K (.ref ff__law_program) = true)
    (a__law_is_int : PySem.W.nsIn K mainGlobals "_law_is_int" = some (some (.ref ff__law_is_int)))
    (l__law_is_int : K.lookup ff__law_is_int = some ⟨oc__law_is_int, od__law_is_int, .func (PySem.W.fnOf "_law_is_int" "_law_is_int" (defArgs s__law_is_int) (defBody s__law_is_int) (defScope s__law_is_int) .none kV__law_is_int dc__law_is_int pm__law_is_int an__law_is_int cd__law_is_int ct__law_is_int), sl__law_is_int⟩)
    (c__law_is_int : PySem.W.codeIn K cd__law_is_int "_law_is_int" = true)
    (k__law_is_int : PySem.W.keepIn K (.ref ff__law_is_int) = true)
    (a__law_is_row : PySem.W.nsIn K mainGlobals "_law_is_row" = some (some (.ref ff__law_is_row)))
    (l__law_is_row : K.lookup ff__law_is_row = some ⟨oc__law_is_row, od__law_is_row, .func (PySem.W.fnOf "_law_is_row" "_law_is_row" (defArgs s__law_is_row) (defBody s__law_is_row) (defScope s__law_is_row) .none kV__law_is_row dc__law_is_row pm__law_is_row an__law_is_row cd__law_is_row ct__law_is_row), sl__law_is_row⟩)
    (c__law_is_row : PySem.W.codeIn K cd__law_is_row "_law_is_row" = true)
    (k__law_is_row : PySem.W.keepIn K (.ref ff__law_is_row) = true)
    (a__law_due : PySem.W.nsIn K mainGlobals "_law_due" = some (some (.ref ff__law_due)))
    (l__law_due : K.lookup ff__law_due = some ⟨oc__law_due, od__law_due, .func (PySem.W.fnOf "_law_due" "_law_due" (defArgs s__law_due) (defBody s__law_due) (defScope s__law_due) .none kV__law_due dc__law_due pm__law_due an__law_due cd__law_due ct__law_due), sl__law_due⟩)
    (c__law_due : PySem.W.codeIn K cd__law_due "_law_due" = true)
    (k__law_due : PySem.W.keepIn K (.ref ff__law_due) = true)
    (a__law_tried : PySem.W.nsIn K mainGlobals "_law_tried" = some (some (.ref ff__law_tried)))
    (l__law_tried : K.lookup ff__law_tried = some ⟨oc__law_tried, od__law_tried, .func (PySem.W.fnOf "_law_tried" "_law_tried" (defArgs s__law_tried) (defBody s__law_tried) (defScope s__law_tried) .none kV__law_tried dc__law_tried pm__law_tried an__law_tried cd__law_tried ct__law_tried), sl__law_tried⟩)
    (c__law_tried : PySem.W.codeIn K cd__law_tried "_law_tried" = true)
    (k__law_tried : PySem.W.keepIn K (.ref ff__law_tried) = true)
    (a__law_bent_row : PySem.W.nsIn K mainGlobals "_law_bent_row" = some (some (.ref ff__law_bent_row)))
    (l__law_bent_row : K.lookup ff__law_bent_row = some ⟨oc__law_bent_row, od__law_bent_row, .func (PySem.W.fnOf "_law_bent_row" "_law_bent_row" (defArgs s__law_bent_row) (defBody s__law_bent_row) (defScope s__law_bent_row) .none kV__law_bent_row dc__law_bent_row pm__law_bent_row an__law_bent_row cd__law_bent_row ct__law_bent_row), sl__law_bent_row⟩)
    (c__law_bent_row : PySem.W.codeIn K cd__law_bent_row "_law_bent_row" = true)
    (k__law_bent_row : PySem.W.keepIn K (.ref ff__law_bent_row) = true)
    (a__law_bent_codes : PySem.W.nsIn K mainGlobals "_law_bent_codes" = some (some (.ref ff__law_bent_codes)))
    (l__law_bent_codes : K.lookup ff__law_bent_codes = some ⟨oc__law_bent_codes, od__law_bent_codes, .func (PySem.W.fnOf "_law_bent_codes" "_law_bent_codes" (defArgs s__law_bent_codes) (defBody s__law_bent_codes) (defScope s__law_bent_codes) .none kV__law_bent_codes dc__law_bent_codes pm__law_bent_codes an__law_bent_codes cd__law_bent_codes ct__law_bent_codes), sl__law_bent_codes⟩)
    (c__law_bent_codes : PySem.W.codeIn K cd__law_bent_codes "_law_bent_codes" = true)
    (k__law_bent_codes : PySem.W.keepIn K (.ref ff__law_bent_codes) = true)
    (a__law_bent_owners : PySem.W.nsIn K mainGlobals "_law_bent_owners" = some (some (.ref ff__law_bent_owners)))
    (l__law_bent_owners : K.lookup ff__law_bent_owners = some ⟨oc__law_bent_owners, od__law_bent_owners, .func (PySem.W.fnOf "_law_bent_owners" "_law_bent_owners" (defArgs s__law_bent_owners) (defBody s__law_bent_owners) (defScope s__law_bent_owners) .none kV__law_bent_owners dc__law_bent_owners pm__law_bent_owners an__law_bent_owners cd__law_bent_owners ct__law_bent_owners), sl__law_bent_owners⟩)
    (c__law_bent_owners : PySem.W.codeIn K cd__law_bent_owners "_law_bent_owners" = true)
    (k__law_bent_owners : PySem.W.keepIn K (.ref ff__law_bent_owners) = true)
    (a_law : PySem.W.nsIn K mainGlobals "law" = some (some (.ref ff_law)))
    (l_law : K.lookup ff_law = some ⟨oc_law, od_law, .func (PySem.W.fnOf "law" "law" (defArgs s_law) (defBody s_law) (defScope s_law) .none kV_law dc_law pm_law an_law cd_law ct_law), sl_law⟩)
    (c_law : PySem.W.codeIn K cd_law "law" = true)
    (k_law : PySem.W.keepIn K (.ref ff_law) = true)
    (pg_Web : PySem.W.plainGet K C_Web Str.empty = true)
    (hd_Web : PySem.W.hasDictIn K C_Web = true)
    (po_Web : PySem.W.plainOver K C_Web = true)
    (sa_Web : PySem.W.findIn K (.ref C_Web) "__setattr__" = some (some (.builtin "object.__setattr__")))
    (mk_Web : PySem.W.makesIn K C_Web = true)
    (kc_Web : PySem.W.keepIn K (.ref C_Web) = true)
    (ha_Web : PySem.W.findIn K (.ref C_Web) "__class__" = some (some (.builtin "object.__class__")))
    (hn_Web : PySem.W.specialIn K (.builtin "object.__class__") "__get__" = some (some (.builtin "getset_descriptor.__get__")))
    (ht_Web : PySem.W.takesIn K (.builtin "object.__class__") = some true)
    (hm_Web : PySem.W.mroIn K C_Web (.type "object") = some true)
    (hne_Web : PySem.W.findIn K (.ref C_Web) "__ne__" = some (some (.builtin "object.__ne__")))
    (na_Web_machines : PySem.W.findIn K (.ref C_Web) "machines" = some none)
    (na_Web_wires : PySem.W.findIn K (.ref C_Web) "wires" = some none)
    (pg_Program : PySem.W.plainGet K C_Program Str.empty = true)
    (hd_Program : PySem.W.hasDictIn K C_Program = true)
    (po_Program : PySem.W.plainOver K C_Program = true)
    (sa_Program : PySem.W.findIn K (.ref C_Program) "__setattr__" = some (some (.builtin "object.__setattr__")))
    (mk_Program : PySem.W.makesIn K C_Program = true)
    (kc_Program : PySem.W.keepIn K (.ref C_Program) = true)
    (ha_Program : PySem.W.findIn K (.ref C_Program) "__class__" = some (some (.builtin "object.__class__")))
    (hn_Program : PySem.W.specialIn K (.builtin "object.__class__") "__get__" = some (some (.builtin "getset_descriptor.__get__")))
    (ht_Program : PySem.W.takesIn K (.builtin "object.__class__") = some true)
    (hm_Program : PySem.W.mroIn K C_Program (.type "object") = some true)
    (hne_Program : PySem.W.findIn K (.ref C_Program) "__ne__" = some (some (.builtin "object.__ne__")))
    (na_Program_owners : PySem.W.findIn K (.ref C_Program) "owners" = some none)
    (na_Program_codes : PySem.W.findIn K (.ref C_Program) "codes" = some none)
    (co_FORMS : PySem.W.nsIn K mainGlobals "FORMS" = some (some (.ref o_FORMS)))
    (kl_FORMS : K.lookup o_FORMS = some ⟨.type "dict", none, .dict es_FORMS en_FORMS, #[]⟩)
    (kk_FORMS : es_FORMS.toList.map He.keyOf = He.keysIn w.params (tab_FORMS.map (·.1)))
    (ko_FORMS : (o_FORMS == sysModules) = false)
    (ke_FORMS : entsB es_FORMS.toList tab_FORMS = true)
    (co_MOST_MACHINES : PySem.W.nsIn K mainGlobals "MOST_MACHINES" = some (some (.int 7 tk_MOST_MACHINES)))
    (co_MOST_CELLS : PySem.W.nsIn K mainGlobals "MOST_CELLS" = some (some (.int 8 tk_MOST_CELLS)))
    (co_MOST_ROWS : PySem.W.nsIn K mainGlobals "MOST_ROWS" = some (some (.int 60 tk_MOST_ROWS)))
    (co_MOST_SET : PySem.W.nsIn K mainGlobals "MOST_SET" = some (some (.int 1000000 tk_MOST_SET)))
    (co_REGISTERS : PySem.W.nsIn K mainGlobals "REGISTERS" = some (some (.int 8 tk_REGISTERS)))
    (z_isinstance : PySem.W.nsIn K mainGlobals "isinstance" = some none)
    (z_int : PySem.W.nsIn K mainGlobals "int" = some none)
    (z_bool : PySem.W.nsIn K mainGlobals "bool" = some none)
    (z_tuple : PySem.W.nsIn K mainGlobals "tuple" = some none)
    (z_len : PySem.W.nsIn K mainGlobals "len" = some none)
    (z_all : PySem.W.nsIn K mainGlobals "all" = some none)
    (z_enumerate : PySem.W.nsIn K mainGlobals "enumerate" = some none)
    (z_str : PySem.W.nsIn K mainGlobals "str" = some none)
    (z_zip : PySem.W.nsIn K mainGlobals "zip" = some none)
    (z_sum : PySem.W.nsIn K mainGlobals "sum" = some none)
    (z_range : PySem.W.nsIn K mainGlobals "range" = some none)
    (z_repr : PySem.W.nsIn K mainGlobals "repr" = some none)
    (z_ValueError : PySem.W.nsIn K mainGlobals "ValueError" = some none)
    (z_list : PySem.W.nsIn K mainGlobals "list" = some none)
    (z_abs : PySem.W.nsIn K mainGlobals "abs" = some none)
    (xL : K.lookup C_BadProgram = some (excClassObj xnm xq C_BadProgram xN xbs [.ref C_GrowError, .type "ValueError", .type "Exception", .type "BaseException", .type "object"] true xsn xsub xab xcol xdd x0 x1 x2 x3 x5 "ValueError.__new__"))
    (xsa : PySem.W.findIn K (.ref C_BadProgram) "__setattr__" = some (some (.builtin "object.__setattr__")))
    (xex : PySem.W.subIn K (.ref C_BadProgram) (.type "BaseException") = some true)
    (xty : PySem.W.typeIn K (.ref C_BadProgram) = some (.type "type"))
    (xk : PySem.W.keepIn K (.ref C_BadProgram) = true)
    (xti : PySem.W.typeIn K (.ref ff_BadProgram_init) = some (.type "function"))
    (xga : PySem.W.findIn K (.ref C_BadProgram) "__getattribute__" = some (some (.builtin "BaseException.__getattribute__")))
    (xgg : PySem.W.findIn K (.ref C_BadProgram) "__getattr__" = some none)
    (xhd : PySem.W.hasDictIn K C_BadProgram = true)
    (xpa : PySem.W.findIn K (.ref C_BadProgram) "part" = some none)
    (xat : PySem.W.findIn K (.ref C_BadProgram) "at" = some none)
    (xcl : PySem.W.findIn K (.ref C_BadProgram) "__class__" = some (some (.builtin "object.__class__")))
    (xcg : PySem.W.specialIn K (.builtin "object.__class__") "__get__" = some (some (.builtin "getset_descriptor.__get__")))
    (xct : PySem.W.takesIn K (.builtin "object.__class__") = some true)
    (xmo : PySem.W.mroIn K C_BadProgram (.type "object") = some true)
    (xmv : PySem.W.mroIn K C_BadProgram (.type "ValueError") = some true)
    (yxy : PySem.W.subIn K (.ref C_BadProgram) (.ref C_BadProgram) = some true)
    (ygy : PySem.W.subIn K (.ref C_BadProgram) (.ref C_GrowError) = some true)
    (ycl : PySem.W.mroIn K C_GrowError (.type "object") = some true)
    (yty : PySem.W.typeIn K (.ref C_GrowError) = some (.type "type"))
    (wmi : PySem.W.mroIn K C_Program (.type "int") = some false)
    (wmb : PySem.W.mroIn K C_Program (.type "bool") = some false)
    (wmt : PySem.W.mroIn K C_Program (.type "tuple") = some false)
    (wms : PySem.W.mroIn K C_Program (.type "str") = some false)
    (wty : PySem.W.typeIn K (.ref C_Program) = some (.type "type"))
    (vne : ((Value.ref C_Web : Value) == .ref C_Program) = false)
    (vsu : PySem.W.subIn K (.ref C_Web) (.ref C_Program) = some false)
    : ∃ fd : FuncData, (∀ (s : Shared) (v : Value), BindsTo s fd ⟨[v], []⟩ [("_law_script", v)]) ∧ ∀ base : Heap, K.In base → base.Ns mainGlobals mg → GOk l.prog w K mg base CX0 11 fa fd ["_law_script"] (spLaw K) := by
  have e := hfa.symm.trans (PySem.W.mg_of X G a_law)
  cases e
  have F_BadWeb_init := fun_mk (st := s_BadWeb_init) l_BadWeb_init c_BadWeb_init k_BadWeb_init
  have b_BadWeb_init := F_BadWeb_init.binds (ps := P_BadWeb_init) fun _ _ _ _ _ _ us hl => match us, hl with | [_, _], _ => rfl
  have F_BadProgram_init := fun_mk (st := s_BadProgram_init) l_BadProgram_init c_BadProgram_init k_BadProgram_init
  have b_BadProgram_init := F_BadProgram_init.binds (ps := P_BadProgram_init) fun _ _ _ _ _ _ us hl => match us, hl with | [_, _, _], _ => rfl
  have F_is_integer := fun_mk (st := s_is_integer) l_is_integer c_is_integer k_is_integer
  have b_is_integer := F_is_integer.binds (ps := P_is_integer) fun _ _ _ _ _ _ us hl => match us, hl with | [_], _ => rfl
  have F_is_between := fun_mk (st := s_is_between) l_is_between c_is_between k_is_between
  have b_is_between := F_is_between.binds (ps := P_is_between) fun _ _ _ _ _ _ us hl => match us, hl with | [_, _, _], _ => rfl
  have F_is_below := fun_mk (st := s_is_below) l_is_below c_is_below k_is_below
  have b_is_below := F_is_below.binds (ps := P_is_below) fun _ _ _ _ _ _ us hl => match us, hl with | [_, _], _ => rfl
  have F_is_tuple_of := fun_mk (st := s_is_tuple_of) l_is_tuple_of c_is_tuple_of k_is_tuple_of
  have b_is_tuple_of := F_is_tuple_of.binds (ps := P_is_tuple_of) fun _ _ _ _ _ _ us hl => match us, hl with | [_, _, _], _ => rfl
  have F_are_below := fun_mk (st := s_are_below) l_are_below c_are_below k_are_below
  have b_are_below := F_are_below.binds (ps := P_are_below) fun _ _ _ _ _ _ us hl => match us, hl with | [_, _], _ => rfl
  have F_is_unlike_pair := fun_mk (st := s_is_unlike_pair) l_is_unlike_pair c_is_unlike_pair k_is_unlike_pair
  have b_is_unlike_pair := F_is_unlike_pair.binds (ps := P_is_unlike_pair) fun _ _ _ _ _ _ us hl => match us, hl with | [_, _], _ => rfl
  have F_Web_init := fun_mk (st := s_Web_init) l_Web_init c_Web_init k_Web_init
  have b_Web_init := F_Web_init.binds (ps := P_Web_init) fun _ _ _ _ _ _ us hl => match us, hl with | [_, _, _], _ => rfl
  have F_Web_eq := fun_mk (st := s_Web_eq) l_Web_eq c_Web_eq k_Web_eq
  have b_Web_eq := F_Web_eq.binds (ps := P_Web_eq) fun _ _ _ _ _ _ us hl => match us, hl with | [_, _], _ => rfl
  have F_first_wrong_wire := fun_mk (st := s_first_wrong_wire) l_first_wrong_wire c_first_wrong_wire k_first_wrong_wire
  have b_first_wrong_wire := F_first_wrong_wire.binds (ps := P_first_wrong_wire) fun _ _ _ _ _ _ us hl => match us, hl with | [_, _], _ => rfl
  have F_Program_init := fun_mk (st := s_Program_init) l_Program_init c_Program_init k_Program_init
  have b_Program_init := F_Program_init.binds (ps := P_Program_init) fun _ _ _ _ _ _ us hl => match us, hl with | [_, _, _], _ => rfl
  have F_Program_eq := fun_mk (st := s_Program_eq) l_Program_eq c_Program_eq k_Program_eq
  have b_Program_eq := F_Program_eq.binds (ps := P_Program_eq) fun _ _ _ _ _ _ us hl => match us, hl with | [_, _], _ => rfl
  have F_check_program := fun_mk (st := s_check_program) l_check_program c_check_program k_check_program
  have b_check_program := F_check_program.binds (ps := P_check_program) fun _ _ _ _ _ _ us hl => match us, hl with | [_, _], _ => rfl
  have F_is_row := fun_mk (st := s_is_row) l_is_row c_is_row k_is_row
  have b_is_row := F_is_row.binds (ps := P_is_row) fun _ _ _ _ _ _ us hl => match us, hl with | [_, _, _], _ => rfl
  have F_fits := fun_mk (st := s_fits) l_fits c_fits k_fits
  have b_fits := F_fits.binds (ps := P_fits) fun _ _ _ _ _ _ us hl => match us, hl with | [_, _, _, _], _ => rfl
  have F__law_pool := fun_mk (st := s__law_pool) l__law_pool c__law_pool k__law_pool
  have b__law_pool := F__law_pool.binds (ps := P__law_pool) fun _ _ _ _ _ _ us hl => match us, hl with | [_], _ => rfl
  have F__law_draw := fun_mk (st := s__law_draw) l__law_draw c__law_draw k__law_draw
  have b__law_draw := F__law_draw.binds (ps := P__law_draw) fun _ _ _ _ _ _ us hl => match us, hl with | [_, _], _ => rfl
  have F__law_deep := fun_mk (st := s__law_deep) l__law_deep c__law_deep k__law_deep
  have b__law_deep := F__law_deep.binds (ps := P__law_deep) fun _ _ _ _ _ _ us hl => match us, hl with | [], _ => rfl
  have F__law_is := fun_mk (st := s__law_is) l__law_is c__law_is k__law_is
  have b__law_is := F__law_is.binds (ps := P__law_is) fun _ _ _ _ _ _ us hl => match us, hl with | [_, _], _ => rfl
  have F__law_row := fun_mk (st := s__law_row) l__law_row c__law_row k__law_row
  have b__law_row := F__law_row.binds (ps := P__law_row) fun _ _ _ _ _ _ us hl => match us, hl with | [_, _, _, _], _ => rfl
  have F__law_program := fun_mk (st := s__law_program) l__law_program c__law_program k__law_program
  have b__law_program := F__law_program.binds (ps := P__law_program) fun _ _ _ _ _ _ us hl => match us, hl with | [_, _, _], _ => rfl
  have F__law_is_int := fun_mk (st := s__law_is_int) l__law_is_int c__law_is_int k__law_is_int
  have b__law_is_int := F__law_is_int.binds (ps := P__law_is_int) fun _ _ _ _ _ _ us hl => match us, hl with | [_, _, _], _ => rfl
  have F__law_is_row := fun_mk (st := s__law_is_row) l__law_is_row c__law_is_row k__law_is_row
  have b__law_is_row := F__law_is_row.binds (ps := P__law_is_row) fun _ _ _ _ _ _ us hl => match us, hl with | [_, _, _, _], _ => rfl
  have F__law_due := fun_mk (st := s__law_due) l__law_due c__law_due k__law_due
  have b__law_due := F__law_due.binds (ps := P__law_due) fun _ _ _ _ _ _ us hl => match us, hl with | [_, _], _ => rfl
  have F__law_tried := fun_mk (st := s__law_tried) l__law_tried c__law_tried k__law_tried
  have b__law_tried := F__law_tried.binds (ps := P__law_tried) fun _ _ _ _ _ _ us hl => match us, hl with | [_, _], _ => rfl
  have F__law_bent_row := fun_mk (st := s__law_bent_row) l__law_bent_row c__law_bent_row k__law_bent_row
  have b__law_bent_row := F__law_bent_row.binds (ps := P__law_bent_row) fun _ _ _ _ _ _ us hl => match us, hl with | [_, _, _], _ => rfl
  have F__law_bent_codes := fun_mk (st := s__law_bent_codes) l__law_bent_codes c__law_bent_codes k__law_bent_codes
  have b__law_bent_codes := F__law_bent_codes.binds (ps := P__law_bent_codes) fun _ _ _ _ _ _ us hl => match us, hl with | [_, _], _ => rfl
  have F__law_bent_owners := fun_mk (st := s__law_bent_owners) l__law_bent_owners c__law_bent_owners k__law_bent_owners
  have b__law_bent_owners := F__law_bent_owners.binds (ps := P__law_bent_owners) fun _ _ _ _ _ _ us hl => match us, hl with | [_, _, _], _ => rfl
  have F_law := fun_mk (st := s_law) l_law c_law k_law
  have b_law := F_law.binds (ps := P_law) fun _ _ _ _ _ _ us hl => match us, hl with | [_], _ => rfl
  have T : Txt w K mg ⟨ff_BadWeb_init, _, ff_BadProgram_init, _, ff_is_integer, _, ff_is_between, _, ff_is_below, _, ff_is_tuple_of, _, ff_are_below, _, ff_is_unlike_pair, _, ff_Web_init, _, ff_Web_eq, _, ff_first_wrong_wire, _, ff_Program_init, _, ff_Program_eq, _, ff_check_program, _, ff_is_row, _, ff_fits, _, ff__law_pool, _, ff__law_draw, _, ff__law_deep, _, ff__law_is, _, ff__law_row, _, ff__law_program, _, ff__law_is_int, _, ff__law_is_row, _, ff__law_due, _, ff__law_tried, _, ff__law_bent_row, _, ff__law_bent_codes, _, ff__law_bent_owners, _, fa, _, C_GrowError, C_BadWeb, C_BadProgram, C_Web, C_Program, tk_MOST_MACHINES, tk_MOST_CELLS, tk_MOST_ROWS, tk_MOST_SET, tk_REGISTERS, o_FORMS⟩ := ⟨F_BadWeb_init,
    b_BadWeb_init,
    F_BadProgram_init,
    b_BadProgram_init,
    F_is_integer,
    b_is_integer,
    PySem.W.mg_of X G a_is_integer,
    F_is_between,
    b_is_between,
    PySem.W.mg_of X G a_is_between,
    F_is_below,
    b_is_below,
    PySem.W.mg_of X G a_is_below,
    F_is_tuple_of,
    b_is_tuple_of,
    PySem.W.mg_of X G a_is_tuple_of,
    F_are_below,
    b_are_below,
    PySem.W.mg_of X G a_are_below,
    F_is_unlike_pair,
    b_is_unlike_pair,
    PySem.W.mg_of X G a_is_unlike_pair,
    F_Web_init,
    b_Web_init,
    F_Web_eq,
    b_Web_eq,
    F_first_wrong_wire,
    b_first_wrong_wire,
    PySem.W.mg_of X G a_first_wrong_wire,
    F_Program_init,
    b_Program_init,
    F_Program_eq,
    b_Program_eq,
    F_check_program,
    b_check_program,
    PySem.W.mg_of X G a_check_program,
    F_is_row,
    b_is_row,
    PySem.W.mg_of X G a_is_row,
    F_fits,
    b_fits,
    PySem.W.mg_of X G a_fits,
    F__law_pool,
    b__law_pool,
    PySem.W.mg_of X G a__law_pool,
    F__law_draw,
    b__law_draw,
    PySem.W.mg_of X G a__law_draw,
    F__law_deep,
    b__law_deep,
    PySem.W.mg_of X G a__law_deep,
    F__law_is,
    b__law_is,
    PySem.W.mg_of X G a__law_is,
    F__law_row,
    b__law_row,
    PySem.W.mg_of X G a__law_row,
    F__law_program,
    b__law_program,
    PySem.W.mg_of X G a__law_program,
    F__law_is_int,
    b__law_is_int,
    PySem.W.mg_of X G a__law_is_int,
    F__law_is_row,
    b__law_is_row,
    PySem.W.mg_of X G a__law_is_row,
    F__law_due,
    b__law_due,
    PySem.W.mg_of X G a__law_due,
    F__law_tried,
    b__law_tried,
    PySem.W.mg_of X G a__law_tried,
    F__law_bent_row,
    b__law_bent_row,
    PySem.W.mg_of X G a__law_bent_row,
    F__law_bent_codes,
    b__law_bent_codes,
    PySem.W.mg_of X G a__law_bent_codes,
    F__law_bent_owners,
    b__law_bent_owners,
    PySem.W.mg_of X G a__law_bent_owners,
    F_law,
    b_law,
    PySem.W.mg_of X G a_law,
    PySem.W.mg_of X G aC_GrowError,
    PySem.W.mg_of X G aC_BadWeb,
    PySem.W.mg_of X G aC_BadProgram,
    PySem.W.mg_of X G aC_Web,
    PySem.W.mg_of X G aC_Program,
    ⟨pg_Web, hd_Web, po_Web, sa_Web⟩,
    ⟨mk_Web, a_Web_init, i_Web_init, kc_Web⟩,
    ⟨⟨pg_Web, hd_Web, po_Web, sa_Web⟩, ha_Web, hn_Web, ht_Web, hm_Web, (by unfold PySem.W.kitOne; simp)⟩,
    a_Web_eq,
    i_Web_eq,
    hne_Web,
    na_Web_machines,
    na_Web_wires,
    ⟨pg_Program, hd_Program, po_Program, sa_Program⟩,
    ⟨mk_Program, a_Program_init, i_Program_init, kc_Program⟩,
    ⟨⟨pg_Program, hd_Program, po_Program, sa_Program⟩, ha_Program, hn_Program, ht_Program, hm_Program, (by unfold PySem.W.kitOne; simp)⟩,
    a_Program_eq,
    i_Program_eq,
    hne_Program,
    na_Program_owners,
    na_Program_codes,
    ⟨⟨_, _, _, _, _, _, _, _, _, _, _, _, _, _, _, xL, by first | rfl | with_unfolding_all rfl | (show PySem.HandSPX.refsVE [.type "ValueError", .type "Exception", .type "BaseException", .type "object"] = true; decide +kernel)⟩, xsa, xex, xty, xk⟩,
    a_BadProgram_init,
    xti,
    ⟨xga, xgg, xex, xhd⟩,
    xpa,
    xat,
    ⟨xga, xgg, xex, xhd, xcl, xcg, xct, xmo⟩,
    PySem.W.exm_ref xex xhd xty yxy,
    kit_sub ygy (cls_some ycl) yty,
    kit_mro xmv (by decide +kernel),
    InsK.of ⟨⟨pg_Program, hd_Program, po_Program, sa_Program⟩, ha_Program, hn_Program, ht_Program, hm_Program, (by unfold PySem.W.kitOne; simp)⟩ wmi wmb wmt wms,
    wty,
    kit_off vne vsu (cls_some hm_Program) wty,
    PySem.W.mg_of X G co_MOST_MACHINES,
    PySem.W.mg_of X G co_MOST_CELLS,
    PySem.W.mg_of X G co_MOST_ROWS,
    PySem.W.mg_of X G co_MOST_SET,
    PySem.W.mg_of X G co_REGISTERS,
    PySem.W.mg_of X G co_FORMS,
    wrd_of kl_FORMS kk_FORMS ko_FORMS ke_FORMS,
    PySem.W.mg_none_of X G z_isinstance,
    PySem.W.mg_none_of X G z_int,
    PySem.W.mg_none_of X G z_bool,
    PySem.W.mg_none_of X G z_tuple,
    PySem.W.mg_none_of X G z_len,
    PySem.W.mg_none_of X G z_all,
    PySem.W.mg_none_of X G z_enumerate,
    PySem.W.mg_none_of X G z_str,
    PySem.W.mg_none_of X G z_zip,
    PySem.W.mg_none_of X G z_sum,
    PySem.W.mg_none_of X G z_range,
    PySem.W.mg_none_of X G z_repr,
    PySem.W.mg_none_of X G z_ValueError,
    PySem.W.mg_none_of X G z_list,
    PySem.W.mg_none_of X G z_abs⟩
  exact ⟨PySem.W.fnOf "law" "law" (defArgs s_law) (defBody s_law) (defScope s_law) .none kV_law dc_law pm_law an_law cd_law ct_law, fun s v => .of_eq rfl, fun base _ _ => ok_law T⟩
theorem walk {l : PySem.W.OpenLaw} {q : Program} {loose : List Str} {XP : (Str → Option Value) → Heap → Prop} {YP : World → Heap → Prop} {d : DefRec} {K : Params → PySem.W.Frag} (hn : l.most = some 63) (hdf : d.params.defaults = [])
    (hY : ∀ (w : World) (h : Heap), YP w h → (K w.params).In h)
    (F : ∀ (w : World) (mg : Str → Option Value) (fa : Addr) (h : Heap), (K w.params).In h → h.Ns mainGlobals mg → mg d.name = some (.ref fa) →
      ∃ fd : FuncData, (∀ (s : Shared) (u : Value), BindsTo s fd ⟨[u], []⟩ [("_law_script", u)]) ∧ ∀ base : Heap, (K w.params).In base → base.Ns mainGlobals mg → GOk l.prog w (K w.params) mg base CX0 11 fa fd ["_law_script"] (spLaw (K w.params))) :
    PySem.W.WalkO q loose XP YP l.row.toRowW d [] (fun f vs => PySem.call f vs) :=
  GA.walk_G (n := 63) (k := 11) (x := "_law_script") (CX := fun _ => CX0) (sp := fun w => spLaw (K w.params)) hn (by decide) hdf ⟨rfl, by decide, by decide⟩ hY F (fun _ _ a ns hl _ hS => ⟨a, ns, rfl, hS, hl, fun _ => rfl⟩) fun _ _ _ _ _ z => z
end Mine
/-! ## KZ -/
open PySem PySem.W PyProof.Rows in
set_option maxRecDepth 100000 in
set_option maxHeartbeats 0 in
theorem PySem.Challenge.cw_growalong_k27_programs_judged_and_compar_holds : PySem.Challenge.rw_growalong_k27_programs_judged_and_compar.Holds := by
  refine Mine.tophead ?_
  k_fill
  refine Mine.walk (l := PySem.Challenge.rw_growalong_k27_programs_judged_and_compar) rfl rfl (fun w h Y => PySem.W.kIn_of Y) ?F
  case F =>
    intro w mg fa h KX G hmg
    refine' Mine.all_mk KX G hmg ?aC_GrowError ?aC_BadWeb ?aC_BadProgram ?aC_Web ?aC_Program ?a_BadWeb_init ?i_BadWeb_init ?l_BadWeb_init ?c_BadWeb_init ?k_BadWeb_init ?a_BadProgram_init ?i_BadProgram_init ?l_BadProgram_init ?c_BadProgram_init ?k_BadProgram_init ?a_is_integer ?l_is_integer ?c_is_integer ?k_is_integer ?a_is_between ?l_is_between ?c_is_between ?k_is_between ?a_is_below ?l_is_below ?c_is_below ?k_is_below ?a_is_tuple_of ?l_is_tuple_of ?c_is_tuple_of ?k_is_tuple_of ?a_are_below ?l_are_below ?c_are_below ?k_are_below ?a_is_unlike_pair ?l_is_unlike_pair ?c_is_unlike_pair ?k_is_unlike_pair ?a_Web_init ?i_Web_init ?l_Web_init ?c_Web_init ?k_Web_init ?a_Web_eq ?i_Web_eq ?l_Web_eq ?c_Web_eq ?k_Web_eq ?a_first_wrong_wire ?l_first_wrong_wire ?c_first_wrong_wire ?k_first_wrong_wire ?a_Program_init ?i_Program_init ?l_Program_init ?c_Program_init ?k_Program_init ?a_Program_eq ?i_Program_eq ?l_Program_eq ?c_Program_eq ?k_Program_eq ?a_check_program ?l_check_program ?c_check_program ?k_check_program ?a_is_row ?l_is_row ?c_is_row ?k_is_row ?a_fits ?l_fits ?c_fits ?k_fits ?a__law_pool ?l__law_pool ?c__law_pool ?k__law_pool ?a__law_draw ?l__law_draw ?c__law_draw ?k__law_draw ?a__law_deep ?l__law_deep ?c__law_deep ?k__law_deep ?a__law_is ?l__law_is ?c__law_is ?k__law_is ?a__law_row ?l__law_row ?c__law_row ?k__law_row ?a__law_program ?l__law_program ?c__law_program ?k__law_program ?a__law_is_int ?l__law_is_int ?c__law_is_int ?k__law_is_int ?a__law_is_row ?l__law_is_row ?c__law_is_row ?k__law_is_row ?a__law_due ?l__law_due ?c__law_due ?k__law_due ?a__law_tried ?l__law_tried ?c__law_tried ?k__law_tried ?a__law_bent_row ?l__law_bent_row ?c__law_bent_row ?k__law_bent_row ?a__law_bent_codes ?l__law_bent_codes ?c__law_bent_codes ?k__law_bent_codes ?a__law_bent_owners ?l__law_bent_owners ?c__law_bent_owners ?k__law_bent_owners ?a_law ?l_law ?c_law ?k_law ?pg_Web ?hd_Web ?po_Web ?sa_Web ?mk_Web ?kc_Web ?ha_Web ?hn_Web ?ht_Web ?hm_Web ?hne_Web ?na_Web_machines ?na_Web_wires ?pg_Program ?hd_Program ?po_Program ?sa_Program ?mk_Program ?kc_Program ?ha_Program ?hn_Program ?ht_Program ?hm_Program ?hne_Program ?na_Program_owners ?na_Program_codes ?co_FORMS ?kl_FORMS ?kk_FORMS ?ko_FORMS ?ke_FORMS ?co_MOST_MACHINES ?co_MOST_CELLS ?co_MOST_ROWS ?co_MOST_SET ?co_REGISTERS ?z_isinstance ?z_int ?z_bool ?z_tuple ?z_len ?z_all ?z_enumerate ?z_str ?z_zip ?z_sum ?z_range ?z_repr ?z_ValueError ?z_list ?z_abs ?xL ?xsa ?xex ?xty ?xk ?xti ?xga ?xgg ?xhd ?xpa ?xat ?xcl ?xcg ?xct ?xmo ?xmv ?yxy ?ygy ?ycl ?yty ?wmi ?wmb ?wmt ?wms ?wty ?vne ?vsu
    (case aC_GrowError => k_is)
    (case aC_BadWeb => k_is)
    (case aC_BadProgram => k_is)
    (case aC_Web => k_is)
    (case aC_Program => k_is)
    (case a_BadWeb_init => k_is)
    (case i_BadWeb_init => k_is)
    (case l_BadWeb_init => k_is)
    (case c_BadWeb_init => k_is)
    (case k_BadWeb_init => k_is)
    (case a_BadProgram_init => k_is)
    (case i_BadProgram_init => k_is)
    (case l_BadProgram_init => k_is)
    (case c_BadProgram_init => k_is)
    (case k_BadProgram_init => k_is)
    (case a_is_integer => k_is)
    (case l_is_integer => k_is)
    (case c_is_integer => k_is)
    (case k_is_integer => k_is)
    (case a_is_between => k_is)
    (case l_is_between => k_is)
    (case c_is_between => k_is)
    (case k_is_between => k_is)
    (case a_is_below => k_is)
    (case l_is_below => k_is)
    (case c_is_below => k_is)
    (case k_is_below => k_is)
    (case a_is_tuple_of => k_is)
    (case l_is_tuple_of => k_is)
    (case c_is_tuple_of => k_is)
    (case k_is_tuple_of => k_is)
    (case a_are_below => k_is)
    (case l_are_below => k_is)
    (case c_are_below => k_is)
    (case k_are_below => k_is)
    (case a_is_unlike_pair => k_is)
    (case l_is_unlike_pair => k_is)
    (case c_is_unlike_pair => k_is)
    (case k_is_unlike_pair => k_is)
    (case a_Web_init => k_is)
    (case i_Web_init => k_is)
    (case l_Web_init => k_is)
    (case c_Web_init => k_is)
    (case k_Web_init => k_is)
    (case a_Web_eq => k_is)
    (case i_Web_eq => k_is)
    (case l_Web_eq => k_is)
    (case c_Web_eq => k_is)
    (case k_Web_eq => k_is)
    (case a_first_wrong_wire => k_is)
    (case l_first_wrong_wire => k_is)
    (case c_first_wrong_wire => k_is)
    (case k_first_wrong_wire => k_is)
    (case a_Program_init => k_is)
    (case i_Program_init => k_is)
    (case l_Program_init => k_is)
    (case c_Program_init => k_is)
    (case k_Program_init => k_is)
    (case a_Program_eq => k_is)
    (case i_Program_eq => k_is)
    (case l_Program_eq => k_is)
    (case c_Program_eq => k_is)
    (case k_Program_eq => k_is)
    (case a_check_program => k_is)
    (case l_check_program => k_is)
    (case c_check_program => k_is)
    (case k_check_program => k_is)
    (case a_is_row => k_is)
    (case l_is_row => k_is)
    (case c_is_row => k_is)
    (case k_is_row => k_is)
    (case a_fits => k_is)
    (case l_fits => k_is)
    (case c_fits => k_is)
    (case k_fits => k_is)
    (case a__law_pool => k_is)
    (case l__law_pool => k_is)
    (case c__law_pool => k_is)
    (case k__law_pool => k_is)
    (case a__law_draw => k_is)
    (case l__law_draw => k_is)
    (case c__law_draw => k_is)
    (case k__law_draw => k_is)
    (case a__law_deep => k_is)
    (case l__law_deep => k_is)
    (case c__law_deep => k_is)
    (case k__law_deep => k_is)
    (case a__law_is => k_is)
    (case l__law_is => k_is)
    (case c__law_is => k_is)
    (case k__law_is => k_is)
    (case a__law_row => k_is)
    (case l__law_row => k_is)
    (case c__law_row => k_is)
    (case k__law_row => k_is)
    (case a__law_program => k_is)
    (case l__law_program => k_is)
    (case c__law_program => k_is)
    (case k__law_program => k_is)
    (case a__law_is_int => k_is)
    (case l__law_is_int => k_is)
    (case c__law_is_int => k_is)
    (case k__law_is_int => k_is)
    (case a__law_is_row => k_is)
    (case l__law_is_row => k_is)
    (case c__law_is_row => k_is)
    (case k__law_is_row => k_is)
    (case a__law_due => k_is)
    (case l__law_due => k_is)
    (case c__law_due => k_is)
    (case k__law_due => k_is)
    (case a__law_tried => k_is)
    (case l__law_tried => k_is)
    (case c__law_tried => k_is)
    (case k__law_tried => k_is)
    (case a__law_bent_row => k_is)
    (case l__law_bent_row => k_is)
    (case c__law_bent_row => k_is)
    (case k__law_bent_row => k_is)
    (case a__law_bent_codes => k_is)
    (case l__law_bent_codes => k_is)
    (case c__law_bent_codes => k_is)
    (case k__law_bent_codes => k_is)
    (case a__law_bent_owners => k_is)
    (case l__law_bent_owners => k_is)
    (case c__law_bent_owners => k_is)
    (case k__law_bent_owners => k_is)
    (case a_law => k_is)
    (case l_law => k_is)
    (case c_law => k_is)
    (case k_law => k_is)
    (case pg_Web => k_is)
    (case hd_Web => k_is)
    (case po_Web => k_is)
    (case sa_Web => k_is)
    (case mk_Web => k_is)
    (case kc_Web => k_is)
    (case ha_Web => k_is)
    (case hn_Web => k_is)
    (case ht_Web => k_is)
    (case hm_Web => k_is)
    (case hne_Web => k_is)
    (case na_Web_machines => k_is)
    (case na_Web_wires => k_is)
    (case pg_Program => k_is)
    (case hd_Program => k_is)
    (case po_Program => k_is)
    (case sa_Program => k_is)
    (case mk_Program => k_is)
    (case kc_Program => k_is)
    (case ha_Program => k_is)
    (case hn_Program => k_is)
    (case ht_Program => k_is)
    (case hm_Program => k_is)
    (case hne_Program => k_is)
    (case na_Program_owners => k_is)
    (case na_Program_codes => k_is)
    (case co_FORMS => k_is)
    (case kl_FORMS => k_is)
    (case kk_FORMS => kernel_rfl)
    (case ko_FORMS => kernel_rfl)
    (case ke_FORMS => kernel_rfl)
    (case co_MOST_MACHINES => k_is)
    (case co_MOST_CELLS => k_is)
    (case co_MOST_ROWS => k_is)
    (case co_MOST_SET => k_is)
    (case co_REGISTERS => k_is)
    (case z_isinstance => k_is)
    (case z_int => k_is)
    (case z_bool => k_is)
    (case z_tuple => k_is)
    (case z_len => k_is)
    (case z_all => k_is)
    (case z_enumerate => k_is)
    (case z_str => k_is)
    (case z_zip => k_is)
    (case z_sum => k_is)
    (case z_range => k_is)
    (case z_repr => k_is)
    (case z_ValueError => k_is)
    (case z_list => k_is)
    (case z_abs => k_is)
    (case xL => k_is)
    (case xsa => k_is)
    (case xex => k_is)
    (case xty => k_is)
    (case xk => k_is)
    (case xti => k_is)
    (case xga => k_is)
    (case xgg => k_is)
    (case xhd => k_is)
    (case xpa => k_is)
    (case xat => k_is)
    (case xcl => k_is)
    (case xcg => k_is)
    (case xct => k_is)
    (case xmo => k_is)
    (case xmv => k_is)
    (case yxy => k_is)
    (case ygy => k_is)
    (case ycl => k_is)
    (case yty => k_is)
    (case wmi => k_is)
    (case wmb => k_is)
    (case wmt => k_is)
    (case wms => k_is)
    (case wty => k_is)
    (case vne => kernel_rfl)
    (case vsu => k_is)

import PyProof.Rows.All
import KE.KIntText
import KE.SortData
import Wide.All
import OpenK.AllK
import Wide.FinOn
import HandS.ForMost
import HandS.IsInst
import HandS.TupAny
import HandS.NoneIn
import HandS.TupMul
import HandS.Zip
import HandS.Evl
import PyProof.ReprRoads
import HandS.AnyAll
import HandS.Comp
import PyProof.TupleOfGen
import HandS.Set
import HandS.SortInts
import HandS.Walk
import HandS.TupSets
import HandS.SetFor
import HandS.Strs
import HandS.Style
import KE.GoesEnumKw
import PySem.Challenge.RW_sentnext_k16_what_is_a_story
set_option Elab.async false
set_option linter.all false
set_option maxRecDepth 100000
set_option maxHeartbeats 4000000
namespace Qu
open PySem PySem.Spec PyProof.Rows L2
/-! ### data stays where the heap only grows -/
theorem sameT {K : PySem.W.Frag} {H J : Hp} {a : Addr} {xs : List V} (e : Same H J) (h : SqT K H a xs) : SqT K J a xs := by
  rcases h with (h | ⟨o, h⟩) | h
  · exact Or.inl (Or.inl (e _ _ h))
  · exact Or.inl (Or.inr ⟨o, e _ _ h⟩)
  · exact Or.inr h
mutual
theorem dpSame {K : PySem.W.Frag} {H J : Hp} (e : Same H J) : ∀ (d : PyData) (v : V), Dp K H v d → Dp K J v d
  | .none, _, h => by cases h; exact .non
  | .bool b, _, h => by cases h; exact .bl b
  | .int i, _, h => by cases h; exact .int i
  | .str x, _, h => by cases h; exact .str x
  | .list ds, _, h => by cases h with | lst hs ha => exact .lst (e.seq hs) (dpAllSame e ds _ ha)
  | .tuple ds, _, h => by cases h with | tup hs ha => exact .tup (sameT e hs) (dpAllSame e ds _ ha)
  | .dict _, _, h => by cases h
theorem dpAllSame {K : PySem.W.Frag} {H J : Hp} (e : Same H J) : ∀ (ds : List PyData) (vs : List V), DpAll K H vs ds → DpAll K J vs ds
  | [], _, h => by cases h; exact .nil
  | d :: ds, _, h => by cases h with | cons h1 h2 => exact .cons (dpSame e d _ h1) (dpAllSame e ds _ h2)
end
mutual
theorem dpNoDict {K : PySem.W.Frag} {H : Hp} : ∀ (d : PyData) (v : V), Dp K H v d → d.hasDict = false
  | .none, _, _ => by simp only [PyData.hasDict]
  | .bool _, _, _ => by simp only [PyData.hasDict]
  | .int _, _, _ => by simp only [PyData.hasDict]
  | .str _, _, _ => by simp only [PyData.hasDict]
  | .list ds, _, h => by cases h with | lst hs ha => simp only [PyData.hasDict]; exact dpAllNoDict ds _ ha
  | .tuple ds, _, h => by cases h with | tup hs ha => simp only [PyData.hasDict]; exact dpAllNoDict ds _ ha
  | .dict _, _, h => by cases h
theorem dpAllNoDict {K : PySem.W.Frag} {H : Hp} : ∀ (ds : List PyData) (vs : List V), DpAll K H vs ds → PyData.hasDictAll ds = false
  | [], _, _ => by simp only [PyData.hasDictAll]
  | d :: ds, _, h => by cases h with | cons h1 h2 => simp only [PyData.hasDictAll, dpNoDict d _ h1, dpAllNoDict ds _ h2, Bool.or_false]
end

/-! ### repr of data, where no repr is under way around -/
section
variable {X : Cx}
def rShow (K : PySem.W.Frag) : List V → Hp → VK → Prop := fun xs H Q => ∃ (v : V) (d : PyData), xs = [v] ∧ Dp K H v d ∧ d.showable = true ∧ d.depth ≤ 50 ∧ d.shown.length ≤ sizeLine ∧ Q (.str d.shown) H
theorem call_show (hg : X.A.guards = some []) (hu : X.A.units + 64 < cLine) : CallR X (.builtin "repr") (rShow X.K) := by
  intro pins s σ H xs us Q I r h
  obtain ⟨v, d, rfl, hd, hs, hdep, hz, q⟩ := h
  obtain ⟨u, rfl, ru⟩ := vals1 r
  obtain ⟨as, rd⟩ := Dp.reads I d v u hd ru
  have nd := PyData.noDict_hsm (as := as) (dpNoDict d v hd)
  cases hd with
  | non =>
    cases ru
    refine PySem.P.repr_of_none ?_
    exact ⟨.str _, H, I.tok _, ⟨_, rfl⟩, by simpa only [PyData.shown] using q⟩
  | bl b =>
    cases ru
    refine PySem.P.repr_of_bool ?_
    exact ⟨.str _, H, I.tok _, ⟨_, rfl⟩, by simpa only [PyData.shown] using q⟩
  | int i =>
    obtain ⟨t, rfl⟩ := ru
    refine PySem.P.repr_of_int (by simpa [PyData.showable] using hs) ?_
    exact ⟨.str _, H, I.tok _, ⟨_, rfl⟩, by simpa only [PyData.shown] using q⟩
  | str x =>
    obtain ⟨t, rfl⟩ := ru
    refine PySem.P.repr_of_str ?_ (by simpa only [PyData.shown] using hz)
    exact ⟨.str _, H, I.tok _, ⟨_, rfl⟩, by simpa only [PyData.shown] using q⟩
  | lst h1 h2 =>
    cases ru
    exact repr_of_reads' (h₀ := s.heap) rd hs nd hg (by omega) (fun _ _ e => e) (fun h' tu tk hk => ⟨.str _, H, I.kept hk, ⟨_, rfl⟩, q⟩) hz
  | tup h1 h2 =>
    cases ru
    exact repr_of_reads' (h₀ := s.heap) rd hs nd hg (by omega) (fun _ _ e => e) (fun h' tu tk hk => ⟨.str _, H, I.kept hk, ⟨_, rfl⟩, q⟩) hz
end

/-! ### isinstance of data -/
def kindD : PyData → String
  | .none => "NoneType"
  | .bool _ => "bool"
  | .int _ => "int"
  | .str _ => "str"
  | .list _ => "list"
  | .tuple _ => "tuple"
  | .dict _ => "dict"
section
variable {K : PySem.W.Frag} {H : Hp}
theorem dpTy {d : PyData} {v : V} (h : Dp K H v d) : TyX K H v (.type (kindD d)) := by
  cases h with
  | non => exact .base .non
  | bl b => exact .base (.bl b)
  | int i => exact .base (.int i)
  | str x => exact .base (.str x)
  | lst h1 _ =>
    rcases h1 with (h1 | ⟨o, h1⟩) | ⟨o, its, n, hk, hc, _⟩
    · exact .base (.lst h1)
    · exact .base (.frz h1)
    · exact .kList hk hc
  | tup h1 _ =>
    rcases h1 with (h1 | ⟨o, h1⟩) | ⟨o, its, n, hk, hc, _⟩
    · exact .base (.tup h1)
    · exact .fTuple h1
    · exact .kTuple hk hc
def isS (T k : String) : Bool := decide (k = T) || (decide (T = "int") && decide (k = "bool"))
def isA (T : String) (d : PyData) : Bool := isS T (kindD d)
theorem kitS : ∀ T ∈ ["tuple", "int", "bool", "str", "list"], ∀ k ∈ ["NoneType", "bool", "int", "str", "list", "tuple"], kitB k T = some (isS T k) := by decide +kernel
theorem dpKind {d : PyData} {v : V} (h : Dp K H v d) : kindD d ∈ ["NoneType", "bool", "int", "str", "list", "tuple"] := by
  cases h <;> simp [kindD]
end
section
variable {X : Cx}
def rIsD (K : PySem.W.Frag) (T : String) : List V → Hp → VK → Prop := fun xs H Q => ∃ (v : V) (d : PyData), xs = [v, .ty T] ∧ Dp K H v d ∧ Q (.bl (isA T d)) H
theorem call_isD (T : String) (hT : T ∈ ["tuple", "int", "bool", "str", "list"]) : CallR X (.builtin "isinstance") (rIsD X.K T) := by
  intro pins s σ H xs us Q I r h
  obtain ⟨v, d, rfl, hd, q⟩ := h
  refine call_isi pins s σ H _ us Q I r ⟨v, .ty T, .type (kindD d), .type T, isA T d, rfl, .ty T, dpTy hd, kit_ty (kitS T hT _ (dpKind hd)), q⟩
end
/-! ### the end of a law: its def is called by the row's own caller, so nothing is under way around it -/
/-- where the script stands -/
def onlyAt (a : Addr) (u : HO) (free : Bool) : Hp := fun b => if b = a ∧ free = true then some u else none
theorem onlyAt_cases (a : Addr) (u : HO) (free : Bool) (b : Addr) : onlyAt a u free b = none ∨ (b = a ∧ free = true ∧ onlyAt a u free b = some u) := by
  by_cases h : b = a ∧ free = true
  · exact Or.inr ⟨h.1, h.2, if_pos h⟩
  · exact Or.inl (if_neg h)
/-- what the law's body has to do, at any place where its def is called by the caller -/
def LawDoes (P : Program) (w : World) (K : PySem.W.Frag) (mg : Str → Option Value) (st : Stmt) (N : List Str) (f : Addr) : Prop :=
  ∀ (base : Heap) (cdv : Value) (s : Shared) (H : Hp) (a : Addr) (ns : List Int), ns.length ≤ 63 → SqL K H a (ns.map V.int) →
    ∃ t, PSs (cxOf CX0 P w K mg base N "law" (defScope st) f cdv callerA [] s H E0).nox (defBody st) t ∧
      t { nx := fun _ _ => False, rt := fun v _ => v = .bl true } (start N [.ref a]) H
theorem law_at {P : Program} {w : World} {K : PySem.W.Frag} {mg : Str → Option Value} {base : Heap} {st : Stmt} {N : List Str} {f a : Addr} {fd : FuncData} {s : Shared} {H : Hp} {ns : List Int} {x : Str}
    (F : Fun K "law" "law" st f fd) (S : FnScope N [x] (defScope st)) (hr : Room 60 callerA) (D : LawDoes P w K mg st N f)
    (e0 : Env0 P w K mg base callerA [] s H) (hb : BindsTo s fd ⟨[.ref a], []⟩ [(x, .ref a)]) (hl : ns.length ≤ 63) (hS : SqL K H a (ns.map V.int)) :
    codeAny (model P w) callerA (.call (.ref f) ⟨[.ref a], []⟩) (CR CX0 [] P w H s (fun v _ => v = .bl true) E0) s := by
  obtain ⟨oc, od, kV, doc, pm, an, cdv, ct, osl, rfl, lk, hcd⟩ := F.ex
  have heap0 : K.In s.heap := e0.mod.kin.keeps fun b o e => (e0.bs b o e).1
  have lim0 := e0.mod.nolimit.keeps fun b o e => (e0.bs b o e).1
  have vals : Vals [V.ref a] [Value.ref a] := .cons rfl .nil
  refine codeAny_call_function hr.depth (heap0 _ _ lk) rfl S.co S.gen rfl (PySem.W.codeRec_of heap0 hcd) (hb _ _ _ _ ?_)
  refine wpAny_newFunctionEnv_cells S.kind (fun y hy => ?_) fun env he s1 ic => ?_
  · have ey : y = (x, Value.ref a) := List.mem_singleton.mp hy
    rw [ey]
    rcases S.par x (List.mem_singleton.mpr rfl) with q | q
    · exact Or.inl q
    · exact Or.inr ⟨q, PySem.W.cellsFrom_some _ _ _ (Or.inl q)⟩
  · subst he
    refine ⟨lim0.keeps ic.toInCall.keep, codeAny_func ?_⟩
    obtain ⟨t, pt, q⟩ := D base cdv s H a ns hl hS
    have I := inv_start (CX := CX0) (E := E0) (cd := cdv) (f := f) (qual := "law") S hr.hd e0 rfl vals ic
    refine wpAny_mono (pt.nox.run [] s1 _ H _ I q) ?_ ?_
    · intro fl s2 h
      cases fl with
      | ret u =>
        obtain ⟨v, _, H2, J, rv, e⟩ := h
        exact ⟨v, H2, J.os, J.bare, J.base, J.hok, rv, e⟩
      | next => exact (let ⟨_, _, _, z⟩ := h; False.elim z)
      | brk => exact (let ⟨_, _, _, z⟩ := h; False.elim z)
      | cont => exact (let ⟨_, _, _, z⟩ := h; False.elim z)
    · exact fun _ _ z => z
theorem law_walk {l : PySem.W.OpenLaw} {q : Program} {loose : List Str} {XP : (Str → Option Value) → Heap → Prop} {YP : World → Heap → Prop} {d : DefRec} {K : Params → PySem.W.Frag} {x : Str} {st : Stmt} {N : List Str}
    (hn : l.most = some 63) (hdf : d.params.defaults = []) (S : FnScope N [x] (defScope st)) (hY : ∀ (w : World) (h : Heap), YP w h → (K w.params).In h)
    (Fm : ∀ (w : World) (mg : Str → Option Value) (fa : Addr) (h : Heap), (K w.params).In h → h.Ns mainGlobals mg → mg d.name = some (.ref fa) →
      ∃ fd : FuncData, Fun (K w.params) "law" "law" st fa fd ∧ (∀ (s : Shared) (u : Value), BindsTo s fd ⟨[u], []⟩ [(x, u)]) ∧ LawDoes l.prog w (K w.params) mg st N fa) :
    PySem.W.WalkO q loose XP YP l.row.toRowW d [] (fun f vs => PySem.call f vs) := by
  refine Att.attach_call hn hdf fun w s₀ s1 mg mb fa o pm cd doc a vs ns G Y ho hd hcd hmg hobj hints hlen hgen => ?_
  have hK := hY w _ Y
  obtain ⟨fd, F, hbind, D⟩ := Fm w mg fa _ hK G.T.g hmg
  have rv := vals_ints hints
  -- the script is tracked, as known to the object, unless it is one of the module's
  let u : HO := .frz { cls := .type "list", data := .seq vs.toArray } (.lst (ns.map V.int))
  let free : Bool := ((K w.params).lookup a).isNone
  let H : Hp := onlyAt a u free
  have lenV : vs.length = ns.length := hints.length
  have small : ns.length ≤ sizeLine := Nat.le_trans hlen (by decide)
  have hS : SqL (K w.params) H a (ns.map V.int) := by
    cases e : (K w.params).lookup a with
    | none => exact Or.inl (Or.inr ⟨_, if_pos ⟨rfl, by show ((K w.params).lookup a).isNone = true; rw [e]; rfl⟩⟩)
    | some ob =>
      have e1 := (hK a ob e).symm.trans hobj
      cases Option.some.inj e1
      exact Or.inr ⟨_, vs.toArray, _, e, rfl, rfl, rfl, by rw [List.size_toArray, lenV]; exact small, by rw [List.toList_toArray]; exact rv⟩
  have hHok : HOk l.prog w H s1.heap := fun b z e => by
    rcases onlyAt_cases a u free b with n | ⟨rfl, _, y⟩
    · cases n.symm.trans e
    · cases y.symm.trans e
      exact ⟨hobj, by rw [List.length_map]; exact small, vs, _, rv, hobj⟩
  have isL : ∀ {b : Addr} {ob : Obj}, s1.heap.get? b = some ob → (∀ its n, ob.data ≠ .seq its n) → H b = none := fun {b ob} e nd => by
    rcases onlyAt_cases a u free b with n | ⟨rfl, _, _⟩
    · exact n
    · cases hobj.symm.trans e
      exact absurd rfl (nd _ _)
  have nsK : ∀ {b : Addr} {m : Str → Option Value}, s1.heap.Ns b m → (hidT s1.heap H).Ns b m := by
    rintro b m ⟨ob, es, ep, e, dt, r⟩
    exact ⟨ob, es, ep, hidT_get e (isL e fun its n z => nomatch dt.symm.trans z), dt, r⟩
  have inB : (K w.params).In (hidT s1.heap H) := fun b ob e => hidT_get (hK b ob e) (by
    rcases onlyAt_cases a u free b with n | ⟨rfl, fr, _⟩
    · exact n
    · have fr' : ((K w.params).lookup b).isNone = true := fr
      rw [e] at fr'
      cases fr')
  have hM : Mod (K w.params) mg (hidT s1.heap H) := ⟨inB, nsK G.T.g, ⟨mb, nsK G.T.b, G.T.builtins⟩, let ⟨mc, h1, h2⟩ := G.T.nolimit; ⟨mc, nsK h1, h2⟩⟩
  have e0 : Env0 l.prog w (K w.params) mg (hidT s1.heap H) callerA [] s1 H :=
    { frames := rfl, mod := hM, bs := fun b ob e => of_hidT e, bsz := Nat.le_of_eq (hidT_size _ _), funs := True.intro, frf := fun b hb => (List.not_mem_nil hb).elim, hok := hHok, bare := .of_eq hgen }
  refine codeAny_mono (law_at F S ⟨rfl, by decide, by decide⟩ D e0 (hbind s1 (.ref a)) hlen hS) fun r s2 h => ?_
  cases r with
  | error e => exact False.elim h
  | ok fl =>
    cases fl with
    | next => exact False.elim h
    | brk => exact False.elim h
    | cont => exact False.elim h
    | ret v0 =>
      obtain ⟨v, H2, os, bare, un, hok2, r2, ev⟩ := h
      have ev' : v = .bl true := ev
      rw [ev'] at r2
      have e3 : v0 = Value.bool true := r2
      rw [e3]
      refine ⟨rfl, OldK.of_keep fun b ob e => ?_, os, bare⟩
      rcases onlyAt_cases a u free b with n | ⟨rfl, _, y⟩
      · exact un.keep b ob e n List.not_mem_nil List.not_mem_nil
      · have k2 := hok2 b _ (un.frzs b _ _ y)
        cases hobj.symm.trans e
        exact k2.1
/-! ### how much there is to a piece of data, and that it can be shown -/
mutual
def wt : PyData → Nat
  | .list ds => 1 + wtAll ds
  | .tuple ds => 1 + wtAll ds
  | _ => 1
def wtAll : List PyData → Nat
  | [] => 0
  | d :: ds => wt d + wtAll ds
end
mutual
def nice (e : Nat) : PyData → Bool
  | .none => true
  | .bool _ => true
  | .int i => decide (i.natAbs < 2 ^ e)
  | .str x => decide (x.length ≤ 10) && PyData.strOk x
  | .list ds => niceAll e ds
  | .tuple ds => niceAll e ds
  | .dict _ => false
def niceAll (e : Nat) : List PyData → Bool
  | [] => true
  | d :: ds => nice e d && niceAll e ds
end
theorem niceAll_iff {e : Nat} : ∀ {ds : List PyData}, niceAll e ds = true ↔ ∀ d ∈ ds, nice e d = true
  | [] => by simp [niceAll]
  | d :: ds => by simp [niceAll, niceAll_iff (ds := ds)]
theorem wtAll_append : ∀ a b : List PyData, wtAll (a ++ b) = wtAll a + wtAll b
  | [], b => by simp [wtAll]
  | d :: a, b => by simp [wtAll, wtAll_append a b]; omega
theorem wtAll_reverse : ∀ a : List PyData, wtAll a.reverse = wtAll a
  | [] => rfl
  | d :: a => by rw [List.reverse_cons, wtAll_append, wtAll_reverse a]; simp [wtAll]; omega
theorem wt_pos (d : PyData) : 1 ≤ wt d := by cases d <;> simp [wt]
theorem wtAll_len : ∀ ds : List PyData, ds.length ≤ wtAll ds
  | [] => Nat.le_refl _
  | d :: ds => by
    have := wtAll_len ds
    have := wt_pos d
    simp only [List.length_cons, wtAll]
    omega
theorem depthAll_append : ∀ a b : List PyData, PyData.depthAll (a ++ b) = max (PyData.depthAll a) (PyData.depthAll b)
  | [], b => by simp [PyData.depthAll]
  | d :: a, b => by simp only [List.cons_append, PyData.depthAll, depthAll_append a b]; omega
theorem depthAll_le {m : Nat} : ∀ {ds : List PyData}, PyData.depthAll ds ≤ m ↔ ∀ d ∈ ds, d.depth ≤ m
  | [] => by simp [PyData.depthAll]
  | d :: ds => by
    have ih := depthAll_le (m := m) (ds := ds)
    simp only [PyData.depthAll, List.mem_cons, forall_eq_or_imp, ← ih]
    omega
theorem log_lt {e : Nat} {i : Int} (h : i.natAbs < 2 ^ e) : i.natAbs.log2 < e + 1 := by
  by_cases z : i.natAbs = 0
  · rw [z]
    exact Nat.lt_of_le_of_lt (Nat.le_of_eq (by decide : Nat.log2 0 = 0)) (Nat.succ_pos e)
  · exact Nat.lt_succ_of_lt ((Nat.log2_lt z).mpr h)
theorem shownAll_len : ∀ ds : List PyData, (PyData.shownAll ds).length = ds.length
  | [] => by simp [PyData.shownAll]
  | d :: ds => by simp [PyData.shownAll, shownAll_len ds]
mutual
theorem nice_shown {e : Nat} : ∀ d : PyData, nice e d = true → d.shown.length + 2 ≤ (e + 110) * wt d
  | .none, _ => by simp only [PyData.shown, wt]; exact Nat.le_trans (by decide : ("None" : Str).length + 2 ≤ 110) (by omega)
  | .bool b, _ => by
    simp only [PyData.shown, wt]
    cases b
    · exact Nat.le_trans (by decide : ("False" : Str).length + 2 ≤ 110) (by omega)
    · exact Nat.le_trans (by decide : ("True" : Str).length + 2 ≤ 110) (by omega)
  | .int i, h => by
    have h' : i.natAbs < 2 ^ e := by simpa [nice] using h
    have := int_text_length_le (Nat.succ_pos e) (log_lt h')
    simp only [PyData.shown, wt]
    show (Str.ofString (toString i)).length + 2 ≤ _
    rw [PyProof.Rows.ofString_len]
    omega
  | .str x, h => by
    have h' : x.length ≤ 10 ∧ PyData.strOk x = true := by simpa [nice] using h
    have h2 : ∀ c ∈ x.cps.toList, c < 16 ^ 8 := fun c hc => by
      have h3 := h'.2
      unfold PyData.strOk at h3
      have h4 := Array.all_eq_true_iff_forall_mem.mp h3 c (by simpa using hc)
      have h5 : c < 0x110000 := by simpa using h4
      exact Nat.lt_trans h5 (by decide)
    have := StrLaws.reprText_len x h2
    simp only [PyData.shown, wt]
    omega
  | .list ds, h => by
    have ih := nice_shownAll ds (by simpa [nice] using h)
    have l := listText_len_le (PyData.shownAll ds)
    rw [shownAll_len] at l
    simp only [PyData.shown, wt]
    rw [Nat.mul_add (e + 110)]
    omega
  | .tuple ds, h => by
    have ih := nice_shownAll ds (by simpa [nice] using h)
    have l := tupleText_len_le (PyData.shownAll ds)
    rw [shownAll_len] at l
    simp only [PyData.shown, wt]
    rw [Nat.mul_add (e + 110)]
    omega
  | .dict _, h => by simp [nice] at h
theorem nice_shownAll {e : Nat} : ∀ ds : List PyData, niceAll e ds = true → ((PyData.shownAll ds).map (·.length)).sum + 2 * ds.length ≤ (e + 110) * wtAll ds
  | [], _ => by simp [PyData.shownAll]
  | d :: ds, h => by
    have h' : nice e d = true ∧ niceAll e ds = true := by simpa [niceAll] using h
    have h1 := nice_shown d h'.1
    have h2 := nice_shownAll ds h'.2
    simp only [PyData.shownAll, List.map_cons, List.sum_cons, List.length_cons, wtAll]
    rw [Nat.mul_add (e + 110)]
    omega
end
mutual
theorem nice_showable {e : Nat} (he : e < 1900) : ∀ d : PyData, nice e d = true → d.showable = true
  | .none, _ => by simp [PyData.showable]
  | .bool b, _ => by simp [PyData.showable]
  | .int i, h => by
    have h' : i.natAbs < 2 ^ e := by simpa [nice] using h
    have := log_lt h'
    simp only [PyData.showable, decide_eq_true_eq]
    omega
  | .str x, h => by simp [PyData.showable]
  | .list ds, h => by simp only [PyData.showable]; exact nice_showableAll he ds (by simpa [nice] using h)
  | .tuple ds, h => by simp only [PyData.showable]; exact nice_showableAll he ds (by simpa [nice] using h)
  | .dict _, h => by simp [nice] at h
theorem nice_showableAll {e : Nat} (he : e < 1900) : ∀ ds : List PyData, niceAll e ds = true → PyData.showableAll ds = true
  | [], _ => by simp [PyData.showableAll]
  | d :: ds, h => by
    have h' : nice e d = true ∧ niceAll e ds = true := by simpa [niceAll] using h
    simp only [PyData.showableAll, nice_showable he d h'.1, nice_showableAll he ds h'.2, Bool.and_self]
end
mutual
theorem nice_lay {e : Nat} : ∀ d : PyData, nice e d = true → d.canLay0 = true
  | .none, _ => by simp [PyData.canLay0]
  | .bool b, _ => by simp [PyData.canLay0]
  | .int i, h => by simp [PyData.canLay0]
  | .str x, h => by
    have h' : x.length ≤ 10 ∧ PyData.strOk x = true := by simpa [nice] using h
    simp only [PyData.canLay0, h'.2]
  | .list ds, h => by simp only [PyData.canLay0]; exact nice_layAll ds (by simpa [nice] using h)
  | .tuple ds, h => by simp only [PyData.canLay0]; exact nice_layAll ds (by simpa [nice] using h)
  | .dict _, h => by simp [nice] at h
theorem nice_layAll {e : Nat} : ∀ ds : List PyData, niceAll e ds = true → PyData.canLayAll0 ds = true
  | [], _ => by simp [PyData.canLayAll0]
  | d :: ds, h => by
    have h' : nice e d = true ∧ niceAll e ds = true := by simpa [niceAll] using h
    simp only [PyData.canLayAll0, nice_lay d h'.1, nice_layAll ds h'.2, Bool.and_self]
end
theorem nice_shaped {e : Nat} {d : PyData} (h : nice e d = true) (hd : d.depth ≤ 64) : SeqAt.shaped d = true := by
  unfold SeqAt.shaped
  rw [nice_lay d h, decide_eq_true hd]
  rfl
mutual
theorem nice_more {e f : Nat} (hef : e ≤ f) : ∀ d : PyData, nice e d = true → nice f d = true
  | .none, _ => by simp [nice]
  | .bool b, _ => by simp [nice]
  | .int i, h => by
    have h' : i.natAbs < 2 ^ e := by simpa [nice] using h
    simp only [nice, decide_eq_true_eq]
    exact Nat.lt_of_lt_of_le h' (Nat.pow_le_pow_right (by decide) hef)
  | .str x, h => by simpa [nice] using h
  | .list ds, h => by simp only [nice]; exact nice_moreAll hef ds (by simpa [nice] using h)
  | .tuple ds, h => by simp only [nice]; exact nice_moreAll hef ds (by simpa [nice] using h)
  | .dict _, h => by simp [nice] at h
theorem nice_moreAll {e f : Nat} (hef : e ≤ f) : ∀ ds : List PyData, niceAll e ds = true → niceAll f ds = true
  | [], _ => by simp [niceAll]
  | d :: ds, h => by
    have h' : nice e d = true ∧ niceAll e ds = true := by simpa [niceAll] using h
    simp only [niceAll, nice_more hef d h'.1, nice_moreAll hef ds h'.2, Bool.and_self]
end
/-- data that is small: exponent of its numbers, weight, depth -/
structure Tiny (e W m : Nat) (d : PyData) : Prop where
  ni : nice e d = true
  we : wt d ≤ W
  de : d.depth ≤ m
theorem Tiny.mono {e W m e' W' m' : Nat} {d : PyData} (t : Tiny e W m d) (h1 : e ≤ e') (h2 : W ≤ W') (h3 : m ≤ m') : Tiny e' W' m' d :=
  ⟨nice_more h1 d t.ni, Nat.le_trans t.we h2, Nat.le_trans t.de h3⟩
theorem Tiny.shows {e W m : Nat} {d : PyData} (t : Tiny e W m d) (he : e < 1900) (hm : m ≤ 50) (hW : (e + 110) * W ≤ sizeLine) : d.showable = true ∧ d.depth ≤ 50 ∧ d.shown.length ≤ sizeLine := by
  refine ⟨nice_showable he d t.ni, Nat.le_trans t.de hm, ?_⟩
  have h1 := nice_shown d t.ni
  have h2 : (e + 110) * wt d ≤ (e + 110) * W := Nat.mul_le_mul_left _ t.we
  omega
/-- items of a piece of data -/
theorem wt_item : ∀ {ds : List PyData} {d : PyData}, d ∈ ds → wt d ≤ wtAll ds
  | x :: ds, d, h => by
    simp only [wtAll]
    rcases List.mem_cons.mp h with rfl | h
    · omega
    · have := wt_item h
      omega
theorem dpAll_len {K : PySem.W.Frag} {H : Hp} : ∀ {vs : List V} {ds : List PyData}, DpAll K H vs ds → vs.length = ds.length
  | _, _, .nil => rfl
  | _, _, .cons _ t => by simp only [List.length_cons, dpAll_len t]
theorem dpAll_get {K : PySem.W.Frag} {H : Hp} : ∀ {vs : List V} {ds : List PyData} {i : Nat} {v : V}, DpAll K H vs ds → vs[i]? = some v → ∃ d, ds[i]? = some d ∧ Dp K H v d
  | _, _, 0, v, .cons h _, e => by simp at e; subst e; exact ⟨_, rfl, h⟩
  | _, _, i + 1, v, .cons _ t, e => by
    obtain ⟨d, h1, h2⟩ := dpAll_get (i := i) (v := v) t (by simpa using e)
    exact ⟨d, by simpa using h1, h2⟩
theorem dpAll_append {K : PySem.W.Frag} {H : Hp} : ∀ {vs ws : List V} {ds es : List PyData}, DpAll K H vs ds → DpAll K H ws es → DpAll K H (vs ++ ws) (ds ++ es)
  | _, _, _, _, .nil, h => h
  | _, _, _, _, .cons a t, h => .cons a (dpAll_append t h)
theorem dpAll_take {K : PySem.W.Frag} {H : Hp} : ∀ {vs : List V} {ds : List PyData} (n : Nat), DpAll K H vs ds → DpAll K H (vs.take n) (ds.take n)
  | _, _, 0, _ => .nil
  | _, _, _ + 1, .nil => .nil
  | _, _, n + 1, .cons a t => .cons a (dpAll_take n t)
theorem dpAll_drop {K : PySem.W.Frag} {H : Hp} : ∀ {vs : List V} {ds : List PyData} (n : Nat), DpAll K H vs ds → DpAll K H (vs.drop n) (ds.drop n)
  | _, _, 0, h => h
  | _, _, _ + 1, .nil => .nil
  | _, _, n + 1, .cons _ t => dpAll_drop n t
theorem dpAll_reverse {K : PySem.W.Frag} {H : Hp} : ∀ {vs : List V} {ds : List PyData}, DpAll K H vs ds → DpAll K H vs.reverse ds.reverse
  | _, _, .nil => .nil
  | _, _, .cons a t => by
    rw [List.reverse_cons, List.reverse_cons]
    exact dpAll_append (dpAll_reverse t) (.cons a .nil)
/-! ### cuts: what is known behind a test or an expression, said once -/
section
variable {X : Cx}
theorem pt_cut {e : Expr} {t : TT} (h : PT X e t) : PT X e (fun σ H Q => ∃ G : Bool → Hp → Prop, t σ H G ∧ ∀ b J, G b J → Q b J) :=
  ⟨fun pins s σ H Q I ⟨G, g, q⟩ => thn (h.run pins s σ H G I g) fun b s1 ⟨J, I1, z⟩ => ⟨J, I1, q b J z⟩⟩
theorem pe_cut {e : Expr} {t : TE} (h : PE X e t) : PE X e (fun σ H Q => ∃ G : V → Hp → Prop, t σ H G ∧ ∀ v J, G v J → Q v J) :=
  ⟨fun pins s σ H Q I ⟨G, g, q⟩ => thn (h.run pins s σ H G I g) fun u s1 ⟨v, J, I1, r, z⟩ => ⟨v, J, I1, r, q v J z⟩⟩
/-! ### tuples: slices and sums, whatever object they are -/
theorem cut_whole (xs : List V) (lo hi : Option Int) (h : HT.sIx xs.length 0 lo = 0 ∧ HT.sIx xs.length xs.length hi = xs.length) : cutV xs lo hi = xs := by
  unfold cutV
  rw [h.1, h.2, List.drop_zero, Nat.sub_zero, List.take_of_length_le (Nat.le_refl _)]
def rCutS (K : PySem.W.Frag) : V → Option Int → Option Int → Hp → VK → Prop := fun x lo hi H Q => ∃ (a : Addr) (xs : List V), x = .ref a ∧ SqT K H a xs ∧ ∀ (t : Addr) (J : Hp), SqT K J t (cutV xs lo hi) → Same H J → Q (.ref t) J
theorem sl_tupS : SlR X (rCutS X.K) := by
  intro pins s σ H x v vl vu lo hi sl Q I rx hs pl pu h
  obtain ⟨a, xs, rfl, hx, q⟩ := h
  refine sl_tupA pins s σ H _ v vl vu lo hi sl Q I rx hs pl pu ⟨a, xs, rfl, hx, fun z => q a H ?_ (Same.refl H), fun _ p hp => q p _ (SqT.of upd_same) fun b o e => ?_⟩
  · rw [cut_whole xs lo hi z]
    exact hx
  · rw [upd_ne (ne_of_none e hp)]
    exact e
def rCatS (K : PySem.W.Frag) : R2 := fun x y H Q => ∃ (a b : Addr) (xs ys : List V), x = .ref a ∧ y = .ref b ∧ SqT K H a xs ∧ SqT K H b ys ∧ xs.length + ys.length ≤ sizeLine ∧
  ∀ (t : Addr) (J : Hp), SqT K J t (xs ++ ys) → Same H J → Q (.ref t) J
theorem op_catS : OpR X (binaryOp .Add) (rCatS X.K) := by
  intro pins s σ H x y v u Q I rx ry h
  obtain ⟨a, b, xs, ys, rfl, rfl, ha, hb, hz, q⟩ := h
  refine op_catA pins s σ H _ _ v u Q I rx ry ⟨a, b, xs, ys, rfl, rfl, ha, hb, hz, fun e => q b H ?_ (Same.refl H), fun _ e => q a H ?_ (Same.refl H), fun _ _ p hp => q p _ (SqT.of upd_same) fun c o e => ?_⟩
  · rw [e]
    exact hb
  · rw [e, List.append_nil]
    exact ha
  · rw [upd_ne (ne_of_none e hp)]
    exact e
end
/-! ### t[::-1] of a tuple -/
section
variable {prog : Program} {w : World} {A : Around} {E : Value → Shared → Prop} {s : Shared}
theorem back_parts (n : Nat) : Builtin.Slice.sliceAdjust none none (-1) (n : Int) = ((n : Int) - 1, -1) ∧ Builtin.Slice.slicePlaces ((n : Int) - 1) (-1) (-1) = n := by
  constructor
  · unfold Builtin.Slice.sliceAdjust
    simp
  · unfold Builtin.Slice.slicePlaces
    have h1 : ¬ ((-1 : Int) > 0) := by omega
    have h2 : -(-1 : Int) = 1 := rfl
    rw [if_neg h1, h2, Int.ediv_one]
    split <;> omega
theorem fm_congr {α β : Type} {f g : α → Option β} : ∀ l : List α, (∀ x ∈ l, f x = g x) → l.filterMap f = l.filterMap g
  | [], _ => rfl
  | x :: l, h => by
    rw [List.filterMap_cons, List.filterMap_cons, h x List.mem_cons_self, fm_congr l fun y hy => h y (List.mem_cons_of_mem _ hy)]
theorem back_pick (xs : Array Value) : ((List.range xs.size).filterMap fun (k : Nat) => xs[(((xs.size : Int) - 1) + (k : Int) * (-1)).toNat]?).toArray = xs.toList.reverse.toArray := by
  have g := HT.pick_gen xs.reverse 0 xs.size
  rw [List.drop_zero, List.take_of_length_le (by simp)] at g
  rw [Array.toList_reverse] at g
  rw [← g]
  refine congrArg List.toArray (fm_congr _ fun k hk => ?_)
  have hk' : k < xs.size := List.mem_range.mp hk
  have e1 : (((xs.size : Int) - 1) + (k : Int) * (-1)).toNat = xs.size - 1 - k := by omega
  have e2 : (((0 : Nat) : Int) + (k : Int) * 1).toNat = k := by omega
  rw [e1, e2, Array.getElem?_reverse hk']
theorem back_applied {c : Addr} {st : Value} {n : Nat} {Q : Int × Int × Nat → Shared → Prop} (hS : s.heap.IsSliceOf c .none .none st) (hp : IsPart st (some (-1))) (h : Q ((n : Int) - 1, -1, n) s) :
    wpAny (model prog w) A (Builtin.Slice.sliceApplied (.ref c) (pure (n : Int))) Q E s := by
  obtain ⟨ob, o1, o2, o3⟩ := id hS
  unfold Builtin.Slice.sliceApplied Builtin.Slice.sliceFields
  refine wpAny_bind (wpAny_bind (wpAny_field o1 o3 (x := .none) rfl (wpAny_bind (wpAny_field o1 o3 (x := .none) rfl (wpAny_bind (wpAny_field o1 o3 (x := st) rfl (wpAny_pure ?_)))))))
  refine wpAny_bind (HT.slicePart_ hp ?_)
  show wpAny _ _ (if ((-1 : Int) == 0) = true then _ else _) _ _ s
  rw [if_neg (by decide)]
  refine wpAny_bind (slicePart_none (wpAny_bind (slicePart_none (wpAny_bind (wpAny_pure ?_)))))
  show wpAny _ _ (match Builtin.Slice.sliceAdjust none none (-1) (n : Int) with | (lo, hi) => pure (lo, (-1 : Int), Builtin.Slice.slicePlaces lo hi (-1))) _ _ s
  rw [(back_parts n).1]
  show wpAny _ _ (pure ((n : Int) - 1, (-1 : Int), Builtin.Slice.slicePlaces ((n : Int) - 1) (-1) (-1))) _ _ s
  rw [(back_parts n).2]
  exact wpAny_pure h
theorem getItem_back {t c : Addr} {its : Array Value} {st : Value} {Q : Value → Shared → Prop} (hT : IsTup s.heap t its) (hS : s.heap.IsSliceOf c .none .none st) (hp : IsPart st (some (-1))) (hz : its.size ≤ sizeLine)
    (h : Q (.ref s.heap.objs.size) { s with heap := s.heap.push { cls := .type "tuple", data := .seq its.toList.reverse.toArray } }) : wpAny (model prog w) A (getItem (.ref t) (.ref c)) Q E s := by
  have fits : sizeOk (.seq its.toList.reverse.toArray) := by
    show its.toList.reverse.toArray.size ≤ sizeLine
    rw [List.size_toArray, List.length_reverse, Array.length_toList]
    exact hz
  obtain ⟨ob, o1, o2, o3⟩ := id hS
  have isS : s.TypeIs (.ref c) "slice" := ⟨ob, o1, o2⟩
  unfold getItem
  try with_reducible refine wpAny_holding ?_
  first | refine wpAny_bind (wpAny_pure ?_) | skip
  refine wpAny_bind (wpAny_sequenceKey hT.typeIs (by decide) ?_)
  have sl := PyProof.Rows.slot_tuple_getitem
  refine wpAny_bind (wpAny_callSpecial?_slot (name := Str.ofString "__getitem__") hT.typeIs sl (wpAny_call_entry sl hT.typeIs PyProof.Rows.entry_tuple_getitem ?_ (PyProof.Rows.args_tuple_getitem _ _)))
  show wpAny _ _ (Builtin.Tuple.tupleItemsOf (.ref t) >>= _) _ _ s
  refine wpAny_bind (PyProof.Rows.tupleItemsOf_ hT (wpAny_bind (wpAny_typeOf isS ?_)))
  rw [if_pos (by decide)]
  refine wpAny_bind (back_applied hS hp ?_)
  show wpAny _ _ (if ((((its.size : Nat) : Int) - 1 == 0 && (-1 : Int) == 1 && its.size == its.size) = true) then _ else _) _ _ s
  have no : ¬ ((((its.size : Nat) : Int) - 1 == 0 && (-1 : Int) == 1 && its.size == its.size) = true) := by simp
  rw [if_neg no, back_pick]
  first
    | exact wpAny_bind (m := Builtin.Tuple.tupleExact _) (wpAny_newObj_type (wpAny_pure ⟨_, rfl, wpAny_pure h⟩) fits)
    | exact wpAny_bind (m := Builtin.Tuple.tupleExact _) (wpAny_newObj_type (wpAny_bind (wpAny_pure (wpAny_pure ⟨_, rfl, wpAny_pure h⟩))) fits)
    | exact wpAny_bind (wpAny_bind (m := Builtin.Tuple.tupleExact _) (wpAny_newObj_type (wpAny_pure (wpAny_pure ⟨_, rfl, wpAny_pure h⟩)) fits))
    | exact wpAny_bind (wpAny_bind (m := Builtin.Tuple.tupleExact _) (wpAny_newObj_type (wpAny_pure ⟨_, rfl, wpAny_pure h⟩) fits))
end
section
variable {X : Cx}
def tBackT (K : PySem.W.Frag) (te : TE) : TE := fun σ H Q => te σ H fun x J => ∃ (a : Addr) (xs : List V), x = .ref a ∧ SqT K J a xs ∧ ∀ p, J p = none → Q (.ref p) (upd J p (.tup xs.reverse))
theorem pe_revT {e : Expr} {te : TE} {k : Nat} {p1 p2 p3 pos : Pos} (he : PE X e te) : PE X (.Subscript e (.Slice none none (some (.UnaryOp .USub (.Constant (.int 1) k p1) p2)) p3) pos) (tBackT X.K te) := by
  refine ⟨fun pins s σ H Q I h => Subscript_ (thn (he.run pins s σ H _ I h) fun v s1 ⟨x, H1, I1, r1, a, xs, ex, hx, q⟩ => ?_)⟩
  subst ex
  cases r1
  have step : PO X (some (.UnaryOp .USub (.Constant (.int 1) k p1) p2)) _ := po_some (pe_un un_neg pe_int)
  refine wpAny_Slice (thn (po_none.run pins s1 σ H1 (fun o L => o = none ∧ L = H1) I1 ⟨rfl, rfl⟩) fun vl s2 ⟨l, H2, I2, pl, el, e2⟩ => ?_)
  subst el e2
  refine thn (po_none.run pins s2 σ H2 (fun o L => o = none ∧ L = H2) I2 ⟨rfl, rfl⟩) fun vu s3 ⟨u, H3, I3, pu, eu, e3⟩ => ?_
  subst eu e3
  refine thn (step.run pins s3 σ H3 (fun o L => o = some (-1) ∧ L = H3) I3 ⟨1, rfl, -1, rfl, rfl, rfl⟩) fun vs s4 ⟨o, H4, I4, ps, eo, e4⟩ => ?_
  subst eo e4
  cases pl
  cases pu
  have I5 : Inv X pins σ H4 { s4 with heap := s4.heap.push { cls := .type "slice", data := .fields #[.none, .none, vs] } } := I4.kept (t' := s4.toks) fun b ob z => Heap.get?_push_of_some _ z
  obtain ⟨its, r, isT, hz⟩ := I5.tuple hx
  have hlen := r.length
  show wpAny (model X.prog X.w) X.A (subscriptTail e (.Slice none none (some (.UnaryOp .USub (.Constant (.int 1) k p1) p2)) p3) (.ref a) (.ref s4.heap.objs.size)) (EP X pins σ Q) X.xe { s4 with heap := s4.heap.push { cls := .type "slice", data := .fields #[.none, .none, vs] } }
  refine tail_any (ops := [.ref a, .ref s4.heap.objs.size]) isT.typeIs PyProof.Rows.slot_tuple_getitem.lookup ?_ (by with_unfolding_all rfl)
  refine getItem_back isT (Heap.IsSliceOf.new _ .none .none vs) ps (by rw [List.size_toArray]; omega) ?_
  refine ⟨.ref _, _, I5.laid (t' := s4.toks) (o := .tup xs.reverse) (fun b ob z => Heap.get?_push_of_some _ z) (Nat.le_refl _) ?_, rfl, q _ (I5.hok.fresh (Nat.le_refl _))⟩
  exact ⟨by rw [List.length_reverse]; exact hz, its.reverse, r.reverse, _, Heap.get?_push_size _ rfl, rfl, _, rfl⟩
end
/-! ### x in a tuple of data -/
section
variable {X : Cx}
def rInT (K : PySem.W.Frag) : R2 := fun x y H Q => ∃ d ds, Dp K H x d ∧ Dp K H y (.tuple ds) ∧ SeqAt.shaped d = true ∧ SeqAt.shaped (.tuple ds) = true ∧ Q (.bl (ds.any fun z => PyData.eqv z d)) H
theorem op_inT (hu : X.A.units + 65 < cLine) : OpR X (compareOp .In) (rInT X.K) := by
  intro pins s σ H x y v u Q I rx ry h
  obtain ⟨d, ds, hd, he, sd, se, q⟩ := h
  obtain ⟨as, r1⟩ := Dp.reads I d x v hd rx
  obtain ⟨bs, r2⟩ := Dp.reads I (.tuple ds) y u he ry
  exact SeqAt.in_tuple_reads r2 r1 (SeqAt.canLay_of_shaped se) (SeqAt.canLay_of_shaped sd) (room_in_shaped sd hu) ⟨.bl _, H, I, rfl, q⟩
end
/-- a tuple of the module's own -/
def TupOf (o : Obj) (xs : List V) : Prop := ∃ (its : Array Value) (n : Nat), o.cls = .type "tuple" ∧ o.data = .seq its n ∧ its.size ≤ sizeLine ∧ Vals xs its.toList
theorem TupOf.sq {K : PySem.W.Frag} {a : Addr} {o : Obj} {xs : List V} (t : TupOf o xs) (h : K.lookup a = some o) : SqT K (fun _ => none) a xs := by
  obtain ⟨its, n, c, d, z, r⟩ := t
  exact Or.inr ⟨o, its, n, h, c, d, z, r⟩
theorem sq_any {K : PySem.W.Frag} {H : Hp} {a : Addr} {xs : List V} (h : SqT K (fun _ => none) a xs) : SqT K H a xs := sameT (fun _ _ z => by cases z) h
theorem hu65 {A : Around} {k : Nat} (hr : Room k A) : A.units + 65 < cLine := by
  have := hr.un
  omega
/-! ### rules with the written part said, for what stands in a comprehension -/
section
variable {X : Cx}
def rLenK (K : PySem.W.Frag) : List V → Hp → VK → Prop := fun xs H Q => ∃ p ys, xs = [V.ref p] ∧ (SqL K H p ys ∨ SqT K H p ys) ∧ Q (.int ys.length) H
theorem lenK (K : PySem.W.Frag) (h : X.K = K) : CallR X (.builtin "len") (rLenK K) := h ▸ call_len_seq
theorem ixLK (K : PySem.W.Frag) (h : X.K = K) : IxR X (rIxL K) := h ▸ ix_list
theorem ixTK (K : PySem.W.Frag) (h : X.K = K) : IxR X (rIxT K) := h ▸ ix_tup
theorem isDK (K : PySem.W.Frag) (T : String) (hT : T ∈ ["tuple", "int", "bool", "str", "list"]) (h : X.K = K) : CallR X (.builtin "isinstance") (rIsD K T) := h ▸ call_isD T hT
theorem catSK (K : PySem.W.Frag) (h : X.K = K) : OpR X (binaryOp .Add) (rCatS K) := h ▸ op_catS
theorem inK (K : PySem.W.Frag) (h : X.K = K) : OpR X (compareOp .In) (rIn K false) := h ▸ op_in_seq
theorem notInK (K : PySem.W.Frag) (h : X.K = K) : OpR X (compareOp .NotIn) (rIn K true) := h ▸ op_notIn_seq
theorem slSK (K : PySem.W.Frag) (h : X.K = K) : SlR X (rCutS K) := h ▸ sl_tupS
end
/-! ### what may change while a script is drawn from, and while code runs that has tables -/
/-- the heap without the tables of code: where data stands -/
def offT (H : Hp) : Hp := fun b => match H b with
  | some (.tbl _) => none
  | o => o
theorem offT_at {b : Addr} {H : Hp} {o : HO} (h : H b = some o) (nt : ∀ q, o ≠ .tbl q := by intro _ z; cases z) : offT H b = some o := by
  unfold offT
  rw [h]
  cases o <;> first | rfl | exact absurd rfl (nt _)
theorem offT_some {b : Addr} {H : Hp} {o : HO} (h : offT H b = some o) : H b = some o ∧ ∀ q, o ≠ .tbl q := by
  unfold offT at h
  cases e : H b with
  | none => rw [e] at h; cases h
  | some u =>
    rw [e] at h
    cases u <;> first | (cases h; done) | (cases h; exact ⟨rfl, fun _ z => by cases z⟩)
/-- the heap without p and the tables of code: where data stands that does not change -/
def off (p : Addr) (H : Hp) : Hp := fun b => if b = p then none else offT H b
theorem off_at {p b : Addr} {H : Hp} {o : HO} (n : b ≠ p) (h : H b = some o) (nt : ∀ q, o ≠ .tbl q := by intro _ z; cases z) : off p H b = some o := by
  unfold off
  rw [if_neg n]
  exact offT_at h nt
theorem off_same {p : Addr} {H : Hp} : off p H p = none := if_pos rfl
theorem off_none {p b : Addr} {H : Hp} (h : H b = none) : off p H b = none := by
  unfold off offT
  rw [h]
  split <;> rfl
theorem off_some {p b : Addr} {H : Hp} {o : HO} (h : off p H b = some o) : b ≠ p ∧ H b = some o ∧ ∀ q, o ≠ .tbl q := by
  by_cases e : b = p
  · rw [e, off_same] at h
    cases h
  · unfold off at h
    rw [if_neg e] at h
    exact ⟨e, offT_some h⟩
theorem off_in {p : Addr} {H : Hp} : Same (off p H) H := fun b o h => (off_some h).2.1
theorem offT_in {H : Hp} : Same (offT H) H := fun b o h => (offT_some h).1
/-- tables only grow -/
def Tabs (H J : Hp) : Prop := ∀ b q, H b = some (.tbl q) → ∃ q', J b = some (.tbl q') ∧ (TriplesOk q.toList → TriplesOk q'.toList)
theorem Tabs.trans {H J L : Hp} (a : Tabs H J) (b : Tabs J L) : Tabs H L := fun c q e => let ⟨q', e', f⟩ := a c q e; let ⟨q2, e2, f2⟩ := b c q' e'; ⟨q2, e2, fun z => f2 (f z)⟩
theorem Tabs.of_same {H J : Hp} (h : Same H J) : Tabs H J := fun b q e => ⟨q, h _ _ e, id⟩
theorem Tabs.tab {H J : Hp} (h : Tabs H J) {P : Addr} (g : GxR.TabG H P) : GxR.TabG J P := let ⟨q, e, z⟩ := g; let ⟨q', e', f⟩ := h P q e; ⟨q', e', f z⟩
theorem Tabs.put {q : Addr} {G J : Hp} {o : HO} (h : Tabs G J) (n : G q = none) : Tabs G (upd J q o) := fun b x e => by
  rw [upd_ne (ne_of_none e n)]
  exact h b x e
/-- all data is as it was, tables of code may have grown -/
structure Grow (H J : Hp) : Prop where
  s : Same (offT H) (offT J)
  t : Tabs H J
theorem Grow.refl (H : Hp) : Grow H H := ⟨Same.refl _, Tabs.of_same (Same.refl _)⟩
theorem Grow.trans {H J L : Hp} (a : Grow H J) (b : Grow J L) : Grow H L := ⟨a.s.trans b.s, a.t.trans b.t⟩
theorem Grow.of_same {H J : Hp} (h : Same H J) : Grow H J := ⟨fun b u e => let z := offT_some e; offT_at (h _ _ z.1) z.2, Tabs.of_same h⟩
theorem Grow.new {q : Addr} {H : Hp} {o : HO} (h : H q = none) : Grow H (upd H q o) := Grow.of_same fun b u e => by
  rw [upd_ne (ne_of_none e h)]
  exact e
theorem Grow.at {a : Addr} {H J : Hp} {o : HO} (k : Grow H J) (h : H a = some o) (nt : ∀ q, o ≠ .tbl q := by intro _ z; cases z) : J a = some o := (offT_some (k.s a o (offT_at h nt))).1
theorem Grow.write {q : Addr} {G J : Hp} {o : HO} (k : Grow G J) (h : G q = none) : Grow G (upd J q o) :=
  ⟨fun b u e => let z := offT_some e; offT_at (by rw [upd_ne (ne_of_none z.1 h)]; exact k.at z.1 z.2) z.2, k.t.put h⟩
theorem Grow.tabbed {P : Addr} {H J : Hp} (g : GxR.TabG H P) (h : GxR.Tabbed P H J) : Grow H J := by
  obtain ⟨⟨q', e', z'⟩, k⟩ := h
  obtain ⟨q, e, _⟩ := g
  refine ⟨fun b u eb => ?_, fun b x eb => ?_⟩
  · have y := offT_some eb
    have bp : b ≠ P := fun w => by
      rw [w, e] at y
      exact y.2 q (Option.some.inj y.1).symm
    exact offT_at (by rw [k b bp]; exact y.1) y.2
  · by_cases bp : b = P
    · rw [bp]
      exact ⟨q', e', fun _ => z'⟩
    · exact ⟨x, by rw [k b bp]; exact eb, id⟩
theorem Grow.free {q : Addr} {H J : Hp} (k : Grow H J) (h : J q = none) : H q = none := by
  cases e : H q with
  | none => rfl
  | some o =>
    cases o with
    | tbl x =>
      obtain ⟨x', e', _⟩ := k.t q x e
      rw [e'] at h
      cases h
    | _ =>
      rw [k.at e] at h
      cases h
theorem Grow.seq {K : PySem.W.Frag} {a : Addr} {H J : Hp} {xs : List V} (k : Grow H J) (h : SqL K H a xs) : SqL K J a xs := by
  rcases h with (h | ⟨o, h⟩) | h
  · exact Or.inl (Or.inl (k.at h))
  · exact Or.inl (Or.inr ⟨o, k.at h⟩)
  · exact Or.inr h
theorem Grow.tup {K : PySem.W.Frag} {a : Addr} {H J : Hp} {xs : List V} (k : Grow H J) (h : SqT K H a xs) : SqT K J a xs := by
  rcases h with (h | ⟨o, h⟩) | h
  · exact Or.inl (Or.inl (k.at h))
  · exact Or.inl (Or.inr ⟨o, k.at h⟩)
  · exact Or.inr h
/-- all but p and the tables is as it was, and p's first item is the same object -/
structure Keep (p : Addr) (H J : Hp) : Prop where
  s : Same (off p H) (off p J)
  h : ∀ (l : Addr) (r : List V), H p = some (.lst (.ref l :: r)) → ∃ r', J p = some (.lst (.ref l :: r'))
  t : Tabs H J
theorem Keep.refl (p : Addr) (H : Hp) : Keep p H H := ⟨Same.refl _, fun _ r h => ⟨r, h⟩, Tabs.of_same (Same.refl _)⟩
theorem Keep.trans {p : Addr} {H J L : Hp} (a : Keep p H J) (b : Keep p J L) : Keep p H L := ⟨a.s.trans b.s, fun l r h => let ⟨r', h'⟩ := a.h l r h; b.h l r' h', a.t.trans b.t⟩
theorem Keep.put {p l : Addr} {H : Hp} {r r' : List V} (h : H p = some (.lst (.ref l :: r))) : Keep p H (upd H p (.lst (.ref l :: r'))) := by
  refine ⟨fun b u e => ?_, fun m z e => ?_, fun b q e => ?_⟩
  · have q := off_some e
    exact off_at q.1 (by rw [upd_ne q.1]; exact q.2.1) q.2.2
  · rw [h] at e
    cases e
    exact ⟨r', upd_same⟩
  · have n : b ≠ p := fun z => by
      rw [z, h] at e
      cases e
    exact ⟨q, by rw [upd_ne n]; exact e, id⟩
theorem Keep.of_grow {p : Addr} {H J : Hp} (g : Grow H J) : Keep p H J := by
  refine ⟨fun b u e => ?_, fun l r e => ⟨r, g.at e⟩, g.t⟩
  have z := off_some e
  exact off_at z.1 (g.at z.2.1 z.2.2) z.2.2
theorem Keep.of_same {p : Addr} {H J : Hp} (h : Same H J) : Keep p H J := Keep.of_grow (Grow.of_same h)
theorem Keep.new {p q : Addr} {H : Hp} {o : HO} (h : H q = none) : Keep p H (upd H q o) := Keep.of_same fun b u e => by
  rw [upd_ne (ne_of_none e h)]
  exact e
theorem Keep.at {p a : Addr} {H J : Hp} {o : HO} (k : Keep p H J) (n : a ≠ p) (h : H a = some o) (nt : ∀ q, o ≠ .tbl q := by intro _ z; cases z) : J a = some o :=
  (off_some (k.s a o (off_at n h nt))).2.1
/-- an object that was not yet there is changed -/
theorem Keep.write {p q : Addr} {G J : Hp} {o : HO} (k : Keep p G J) (h : G q = none) (n : q ≠ p) : Keep p G (upd J q o) := by
  refine ⟨fun b u e => ?_, fun m r e => ?_, k.t.put h⟩
  · have z := off_some e
    exact off_at z.1 (by rw [upd_ne (ne_of_none z.2.1 h)]; exact k.at z.1 z.2.1 z.2.2) z.2.2
  · obtain ⟨r', q⟩ := k.h m r e
    exact ⟨r', by rw [upd_ne n.symm]; exact q⟩
theorem seq_off {K : PySem.W.Frag} {p a : Addr} {H : Hp} {xs : List V} (n : a ≠ p) (h : SqL K H a xs) : SqL K (off p H) a xs := by
  rcases h with (h | ⟨o, h⟩) | h
  · exact Or.inl (Or.inl (off_at n h))
  · exact Or.inl (Or.inr ⟨o, off_at n h⟩)
  · exact Or.inr h
theorem Keep.seq {K : PySem.W.Frag} {p a : Addr} {H J : Hp} {xs : List V} (k : Keep p H J) (n : a ≠ p) (h : SqL K H a xs) : SqL K J a xs := off_in.seq (k.s.seq (seq_off n h))
theorem tup_off {K : PySem.W.Frag} {p a : Addr} {H : Hp} {xs ys : List V} (hp : H p = some (.lst ys)) (h : SqT K H a xs) : SqT K (off p H) a xs := by
  rcases h with (h | ⟨o, h⟩) | h
  · exact Or.inl (Or.inl (off_at (ne_of h hp (by intro z; cases z)) h))
  · exact Or.inl (Or.inr ⟨o, off_at (ne_of h hp (by intro z; cases z)) h⟩)
  · exact Or.inr h
/-! ### tuple(e for x in range(..) if t): numbers, told by the place -/
section
variable {X : Cx}
theorem cr_rangeOne : CallR X (.type "range") (fun vs H Q => ∃ j : Int, vs = [.int j] ∧ ∀ p, H p = none → Q (.ref p) (upd H p (.rng 0 j))) := by
  intro pins s σ H vs us Q I r h
  obtain ⟨j, rfl, q⟩ := h
  obtain ⟨u, rfl, t, rfl⟩ := vals1 r
  refine call_range_1 ⟨.ref s.heap.objs.size, upd H s.heap.objs.size (.rng 0 j), I.laid (t' := s.toks + 1 + 1) (fun b o e => Heap.get?_push_of_some _ e) (Nat.le_refl _) ?_, rfl, q _ (I.hok.fresh (Nat.le_refl _))⟩
  exact ⟨s.toks, t, s.toks + 1, Heap.get?_push_size _ rfl⟩
theorem cr_rangeTwo : CallR X (.type "range") (fun vs H Q => ∃ i j : Int, vs = [.int i, .int j] ∧ ∀ p, H p = none → Q (.ref p) (upd H p (.rng i j))) := by
  intro pins s σ H vs us Q I r h
  obtain ⟨i, j, rfl, q⟩ := h
  obtain ⟨u1, u2, rfl, ⟨t, rfl⟩, ⟨u, rfl⟩⟩ := vals2 r
  refine call_range_2 ⟨.ref s.heap.objs.size, upd H s.heap.objs.size (.rng i j), I.laid (t' := s.toks + 1) (fun b o e => Heap.get?_push_of_some _ e) (Nat.le_refl _) ?_, rfl, q _ (I.hok.fresh (Nat.le_refl _))⟩
  exact ⟨t, u, s.toks, Heap.get?_push_size _ rfl⟩
end
theorem vals_at {f : Nat → Int} : ∀ (l : List Nat) (us : List Value), us.length = l.length → (∀ (j : Nat) (v : Value), us[j]? = some v → ∃ i, l[j]? = some i ∧ ∃ t, v = .int (f i) t) → Vals (l.map fun i => V.int (f i)) us
  | [], [], _, _ => .nil
  | [], _ :: _, h, _ => by simp at h
  | _ :: _, [], h, _ => by simp at h
  | i :: l, u :: us, h, g => by
    obtain ⟨i', e, t, ht⟩ := g 0 u rfl
    have e' : i = i' := Option.some.inj e
    rw [List.map_cons]
    refine .cons (by rw [e']; exact ⟨t, ht⟩) (vals_at l us (by simpa using h) fun j v hv => ?_)
    obtain ⟨k, e2, z⟩ := g (j + 1) v hv
    exact ⟨k, e2, z⟩
/-- the tests and the element of a generator expression, at its i-th place, wherever its frame stands -/
def ElemOk (X : Cx) (scope : Scope) (x : Str) (ifs : List Expr) (elt : Expr) (lo : Int) (n : Nat) (pz : Nat → Bool) (f : Nat → Int) (P : Addr) (s1 : Shared) : Prop :=
  ∀ (cenv : Env) (A' : Around) (E' : Value → Shared → Prop) (i : Nat) (t : Tok) (s2 : Shared) (m2 : Str → Option Value), i < n → cenv.scope = scope → cenv.cells = cloFrom X.env.cells scope.names [] → A'.handled = none →
    s2.heap.Ns cenv.locals m2 → m2 x = some (.int (lo + i) t) → (∀ b o, b ≠ P → s1.heap.get? b = some o → s2.heap.get? b = some o) →
      wpAny (model X.prog X.w) A' (forIn ifs true fun c r => if r = true then do let ok ← isTrue c cenv (eval c cenv); pure (ForInStep.yield ok) else pure (ForInStep.yield r)) (fun ok s3 => ok = pz i ∧ PySem.Keeps s2 s3) E' s2 ∧
      (pz i = true → wpAny (model X.prog X.w) A' (eval elt cenv) (fun y s3 => (∃ u, y = .int (f i) u) ∧ PySem.Keeps s2 s3) E' s2)
def tTupG (X : Cx) (P : Addr) (scope : Scope) (x : Str) (ifs : List Expr) (elt : Expr) (te : TE) : TE := fun σ H Q => te σ H fun v H1 => ∃ (r : Addr) (lo hi : Int) (pz : Nat → Bool) (f : Nat → Int), v = .ref r ∧ H1 r = some (.rng lo hi) ∧ -(2 ^ 62) ≤ lo ∧ lo < 2 ^ 62 ∧ -(2 ^ 62) ≤ hi ∧ hi < 2 ^ 62 ∧
  (hi - lo).toNat ≤ sizeLine ∧ GxR.TabG H1 P ∧ (∀ pins s1, Inv X pins σ H1 s1 → ElemOk X scope x ifs elt lo (hi - lo).toNat pz f P s1) ∧
  ∀ (t : Addr) (H2 : Hp), GxR.Tabbed P H1 H2 → H2 t = none → Q (.ref t) (upd H2 t (.tup (((List.range (hi - lo).toNat).filter pz).map fun i => V.int (f i))))
section
variable {X : Cx}
theorem pe_tupG {c P : Addr} {elt iter : Expr} {ifs : List Expr} {x : Str} {px p pos gpos : Pos} {scope : Scope} {te : TE} {k : Nat}
    (hr : Room k X.A) (hg : Gl X "tuple") (hm : X.mg "tuple" = none) (TB : GxR.TabB X.base X.mg c P) (hcode : X.env.code = .ref c) (S : GxR.GenS X.env scope x) (hi : PE X iter te) (hs : ∀ v, genFold iter X.env v = pure v)
    (hc : X.calm = true) (he : starEach [.GeneratorExp elt [⟨.Name x px, iter, ifs, 0⟩] scope gpos] X.env = (false, eval (.GeneratorExp elt [⟨.Name x px, iter, ifs, 0⟩] scope gpos) X.env) :: starEach [] X.env := by rfl) :
    PE X (.Call (.Name "tuple" p) [.GeneratorExp elt [⟨.Name x px, iter, ifs, 0⟩] scope gpos] [] pos) (tTupG X P scope x ifs elt te) := by
  refine ⟨fun pins s σ H Q I h => ?_⟩
  refine wpAny_Call_Name_kw (ld_blt I hg hm (show bootBuiltins "tuple" = some (.type "tuple") by decide +kernel) ?_)
  refine PyProof.Rows.callWith_type1 ?_ he (by rfl)
  rw [he]
  show wpAny _ _ (spliced ((false, eval (.GeneratorExp elt [⟨.Name x px, iter, ifs, 0⟩] scope gpos) X.env) :: backTo pos (starEach [] X.env))) _ _ s
  refine Calls.spliced_cons ?_
  refine wpAny_GeneratorExp_walksQ (I.ok.hd hc) S.co (closure_ok S.free) S.cell S.dot S.loc S.kind (by have := hr.dp; omega) ?_ hs
  refine thn (hi.run pins s σ H _ I h) fun xv s1 ⟨v, H1, I1, r1, r, lo, hi', pz, f, ev, hR, b1, b2, b3, b4, hz, ⟨ps, hP, ht⟩, hE, q⟩ => ?_
  subst ev
  cases r1
  obtain ⟨ta, tb, tc, hRo⟩ := I1.hok r _ hR
  refine wpAny_pyIter_range hRo (small_one b1 b2 b3 b4) ?_
  have hn : Builtin.Range.rangeSize lo hi' 1 = ((hi' - lo).toNat : Int) := by
    rw [rangeSize_one]
    split <;> omega
  rw [hn]
  generalize hO : ({ cls := .type "range_iterator", data := .fields #[rawInt lo, rawInt ((hi' - lo).toNat : Int), rawInt 1] } : Obj) = ob
  have hIt : IsRangeIter (s1.heap.push ob) s1.heap.objs.size lo ((hi' - lo).toNat : Int) 1 := by
    rw [← hO]
    exact Heap.get?_push_size _ rfl
  have gP : s1.heap.get? P = some { cls := .none, data := .fields ps } := I1.hok P _ hP
  have Plt : P < s1.heap.objs.size := Heap.lt_size gP
  have gP2 : (s1.heap.push ob).get? P = some { cls := .none, data := .fields ps } := Heap.get?_push_of_some _ gP
  have cd : PySem.W.CodeHd (s1.heap.push ob) c P := TB.code.keeps fun b u e => Heap.get?_push_of_some _ (I1.bk b u e)
  have lim2 : (s1.heap.push ob).NoLimit := I1.nolimit.push ob
  have main : ∀ (code : Value) (h3 : Heap) (tk : Nat) (qs : Array Value), Heap.ExtBut P (s1.heap.push ob) h3 → (s1.heap.push ob).objs.size ≤ h3.objs.size → h3.get? P = some { cls := .none, data := .fields qs } → (∃ more, qs = ps ++ more) → TriplesOk qs.toList →
      wpAny (model X.prog X.w) X.A (builtinsFor X.env.globals X.env.builtins) (fun bi s4 =>
        ∃ Ia fp wr n0 Pf St0 pz F, Value.ref s1.heap.objs.size = .ref Ia ∧ (∀ A' : Around, A'.handled = none → Walks X.prog X.w A' Ia fp wr n0 Pf St0) ∧ St0 0 s4.heap ∧ (∀ b ∈ fp, b < s4.heap.objs.size) ∧ s4.heap.NoLimit ∧ cStatics ∉ wr ∧
          (∀ href : Heap, (∀ b o, s4.heap.get? b = some o → href.get? b = some o) →
            QuietGen X.prog X.w (genEnv scope (cloFrom X.env.cells scope.names []) s4.heap.objs.size code bi X.env) x ifs elt (List.range s4.heap.objs.size) wr Pf pz F href) ∧
          (∀ a h5 tk gs, gs.bare = true → s4.heap.objs.size < a → h5.objs.size = a + 1 → (∀ b o, s4.heap.get? b = some o → h5.get? b = some o) →
            WalksS X.prog X.w X.A.in4 a (a :: s4.heap.objs.size :: List.range s4.heap.objs.size) (s4.heap.objs.size :: wr) (GenOnlyQ s4.gens.size) (passing pz n0 0).length
              (fun j y => ∃ i, (passing pz n0 0)[j]? = some i ∧ F i y) (GenAt X.prog X.w X.A.in4 a s4.gens.size s4.heap.objs.size (List.range s4.heap.objs.size) wr pz n0 F) →
            GenAt X.prog X.w X.A.in4 a s4.gens.size s4.heap.objs.size (List.range s4.heap.objs.size) wr pz n0 F 0 { s4 with gens := s4.gens.push gs, toks := tk, heap := h5 } →
            wpAny (model X.prog X.w) X.A (spliced (backTo pos (starEach [] X.env)))
              (fun a_1 s' => wpAny (model X.prog X.w) X.A (call (.type "tuple") (.ref a :: a_1)) (EP X pins σ Q) X.xe s') X.xe { s4 with gens := s4.gens.push gs, toks := tk, heap := h5 })) X.xe { s1 with heap := h3, toks := tk } := by
    intro code h3 tk qs hx hsz gP3 hmore ht3
    obtain ⟨bm, bo, e1, e2, e3, e4, e5, e6, e7, e8⟩ := TB.bm
    have csP : cStatics ≠ P := fun e => by
      obtain ⟨_, hns, _⟩ := I1.nolimit
      obtain ⟨o', es, ep, ho, hd, _⟩ := hns
      rw [e, gP] at ho
      cases ho
      cases hd
    have cl : cStatics < s1.heap.objs.size := let ⟨_, hns, _⟩ := I1.nolimit; hns.lt
    have sz2 : (s1.heap.push ob).objs.size = s1.heap.objs.size + 1 := Heap.size_push ..
    have kp3 : ∀ b u, b ≠ P → s1.heap.get? b = some u → h3.get? b = some u := fun b u hb e => hx b u hb (Heap.get?_push_of_some _ e)
    refine wpAny_builtinsFor (m := X.mg) (by rw [I1.ok.glob]; exact ((I1.mod.glob.keeps I1.bk).push ob).extBut hx TB.gP) e1 e2 (kp3 _ _ e4 (I1.bk _ _ e5)) e6 e7 e8 ?_
    refine ⟨s1.heap.objs.size, [s1.heap.objs.size], [s1.heap.objs.size], (hi' - lo).toNat, (fun i v => i < (hi' - lo).toNat ∧ ∃ t, v = .int (lo + (i : Nat) * 1) t), _, pz, (fun i y => ∃ u, y = .int (f i) u), rfl, (fun A' hA => (Walks.range hA _ lo 1 _).bound), ?_, ?_, lim2.extBut hx csP, ?_, ?_, ?_⟩
    · show IsRangeIter h3 s1.heap.objs.size (lo + ((0 : Nat) : Int) * 1) (((hi' - lo).toNat : Int) - ((0 : Nat) : Int)) 1
      have z1 : lo + ((0 : Nat) : Int) * 1 = lo := by simp
      have z2 : ((hi' - lo).toNat : Int) - ((0 : Nat) : Int) = ((hi' - lo).toNat : Int) := by simp
      rw [z1, z2]
      exact hx _ _ (Nat.ne_of_gt Plt) hIt
    · intro b hb
      rw [List.mem_singleton.mp hb]
      show s1.heap.objs.size < h3.objs.size
      omega
    · intro z
      exact Nat.ne_of_lt cl (List.mem_singleton.mp z)
    · intro href hh
      have old : ∀ (s2 : Shared), (∀ b ∈ List.range h3.objs.size, b ∉ [s1.heap.objs.size] → ∀ o, href.get? b = some o → s2.heap.get? b = some o) → ∀ b o, b ≠ P → s1.heap.get? b = some o → s2.heap.get? b = some o := fun s2 hk b o hb e => by
        have lt1 := Heap.lt_size e
        refine hk b (List.mem_range.mpr (Heap.lt_size (kp3 b o hb e))) (fun z => ?_) o (hh b o (kp3 b o hb e))
        rw [List.mem_singleton.mp z] at lt1
        exact Nat.lt_irrefl _ lt1
      refine ⟨fun A' E' i v s2 m2 hA hv hns hm2 hk => ?_, fun A' E' i v s2 m2 hA hv hp hns hm2 hk => ?_⟩
      · obtain ⟨hi1, t, rfl⟩ := hv
        exact (hE pins s1 I1 _ A' E' i t s2 m2 hi1 rfl rfl hA hns (by rw [hm2]; simp) (old s2 hk)).1
      · obtain ⟨hi1, t, rfl⟩ := hv
        exact (hE pins s1 I1 _ A' E' i t s2 m2 hi1 rfl rfl hA hns (by rw [hm2]; simp) (old s2 hk)).2 hp
    · intro g h5 tk5 gs bare hlt5 hsz5 hk5 W5 g0
      refine Calls.spliced_nil ?_
      have len0 : (passing pz (hi' - lo).toNat 0) = (List.range (hi' - lo).toNat).filter pz := by
        unfold passing
        rw [List.drop_zero]
      refine call_tuple_gen W5.in4_3 (fun i s9 h9 => h9.1.typeIs) g0 (fun b hb => ?_) List.mem_cons_self (fun s' acc hm' hacc => ?_) ?_
      · show b < h5.objs.size
        have a5 : h5.objs.size = g + 1 := hsz5
        have a6 : h3.objs.size < g := hlt5
        rw [a5]
        rcases List.mem_cons.mp hb with z | z
        · rw [z]
          exact Nat.lt_succ_self g
        · rcases List.mem_cons.mp z with z | z
          · rw [z]
            exact Nat.lt_succ_of_lt a6
          · have z2 : b < h3.objs.size := List.mem_range.mp z
            exact Nat.lt_succ_of_lt (Nat.lt_trans z2 a6)
      · obtain ⟨more, em⟩ := hmore
        have nw : ∀ b u, s1.heap.get? b = some u → b ∉ h3.objs.size :: [s1.heap.objs.size] := fun b u e hb => by
          have hl := Heap.lt_size e
          rcases List.mem_cons.mp hb with z | z
          · rw [z] at hl
            have h9 : (h3.objs.size : Nat) < s1.heap.objs.size := hl
            omega
          · rw [List.mem_singleton.mp z] at hl
            exact Nat.lt_irrefl _ hl
        have J := GxR.inv_tab (more := more) (h' := s'.heap) (g' := s'.gens) (d' := s'.drawn) (t' := s'.toks) I1 hP (fun b u hb e => hm'.heap b u (nw b u e) (hk5 b u (kp3 b u hb e)))
          (by rw [← em]; exact hm'.heap P _ (nw P _ gP) (hk5 P _ gP3)) (AllBare.movedS (I1.bare.push bare) hm')
        rw [GxR.sh_eta s1 s' hm'.os] at J
        have tabbed : GxR.Tabbed P H1 (upd H1 P (.tbl (ps ++ more))) := ⟨⟨ps ++ more, upd_same, by rw [← em]; exact ht3⟩, fun b hb => upd_ne hb⟩
        have sz : (((List.range (hi' - lo).toNat).filter pz).map fun i => V.int (f i)).length ≤ sizeLine := by
          rw [List.length_map]
          exact Nat.le_trans (List.length_filter_le _ _) (by rw [List.length_range]; exact hz)
        have vv : Vals (((List.range (hi' - lo).toNat).filter pz).map fun i => V.int (f i)) acc.toList := by
          refine vals_at _ _ ?_ fun j y hy => ?_
          · rw [Array.length_toList, hacc.1, len0]
          · obtain ⟨i, e9, u, z⟩ := hacc.2 j y (by simpa using hy)
            exact ⟨i, by rw [← len0]; exact e9, u, z⟩
        refine ⟨.ref _, _, J.laid (t' := s'.toks) (o := .tup _) (fun b o' z => Heap.get?_push_of_some _ z) (Nat.le_refl _) ⟨sz, acc.toList, vv, _, Heap.get?_push_size _ rfl, rfl, _, rfl⟩, rfl, q _ _ tabbed (J.hok.fresh (Nat.le_refl _))⟩
      · rw [len0]
        exact Nat.le_trans (List.length_filter_le _ _) (by rw [List.length_range]; exact hz)
  refine ⟨lim2, ?_⟩
  cases hf : codeAmong gpos ps.toList with
  | none =>
    refine wpAny_genexprCodeX hcode (cd.code gP2 ht) (cd.tab gP2) hf fun c' h' tk hx hge hlt hco' _ htab' _ => ?_
    obtain ⟨_, _, _, _, _, _, _, _, _, _, _, _, _, _, _, _, _, _, _, htr, _⟩ := hco'
    exact main _ h' tk _ hx (Nat.le_trans hge (Nat.le_of_lt hlt)) htab'.2 ⟨_, rfl⟩ htr
  | some cv =>
    refine wpAny_genexprCode_hit hcode (cd.code gP2 ht) hf ?_
    exact main cv (s1.heap.push ob) s1.toks ps (Heap.ExtBut.refl _ _) (Nat.le_refl _) gP2 ⟨#[], by simp⟩ ht
end
/-! ### the end of a law whose defs hold generator expressions: the tables of their code objects are tracked -/
def LawDoesT (P : Program) (w : World) (K : PySem.W.Frag) (mg : Str → Option Value) (base : Heap) (st : Stmt) (N : List Str) (f : Addr) (cs : List (Addr × Addr)) : Prop :=
  ∀ (cdv : Value) (s : Shared) (H : Hp) (a : Addr) (ns : List Int), ns.length ≤ 63 → (∀ p ∈ cs, H p.2 = some (.tbl #[])) → SqL K H a (ns.map V.int) →
    ∃ t, PSs (cxOf CX0 P w K mg base N "law" (defScope st) f cdv callerA [] s H E0).nox (defBody st) t ∧
      t { nx := fun _ _ => False, rt := fun v _ => v = .bl true } (start N [.ref a]) H
theorem law_atT {P : Program} {w : World} {K : PySem.W.Frag} {mg : Str → Option Value} {base : Heap} {st : Stmt} {N : List Str} {f a : Addr} {fd : FuncData} {s : Shared} {H : Hp} {ns : List Int} {x : Str} {cs : List (Addr × Addr)}
    (F : Fun K "law" "law" st f fd) (S : FnScope N [x] (defScope st)) (hr : Room 60 callerA) (D : LawDoesT P w K mg base st N f cs) (hT : ∀ p ∈ cs, H p.2 = some (.tbl #[]))
    (e0 : Env0 P w K mg base callerA [] s H) (hb : BindsTo s fd ⟨[.ref a], []⟩ [(x, .ref a)]) (hl : ns.length ≤ 63) (hS : SqL K H a (ns.map V.int)) :
    codeAny (model P w) callerA (.call (.ref f) ⟨[.ref a], []⟩) (CR CX0 [] P w H s (fun v _ => v = .bl true) E0) s := by
  obtain ⟨oc, od, kV, doc, pm, an, cdv, ct, osl, rfl, lk, hcd⟩ := F.ex
  have heap0 : K.In s.heap := e0.mod.kin.keeps fun b o e => (e0.bs b o e).1
  have lim0 := e0.mod.nolimit.keeps fun b o e => (e0.bs b o e).1
  have vals : Vals [V.ref a] [Value.ref a] := .cons rfl .nil
  refine codeAny_call_function hr.depth (heap0 _ _ lk) rfl S.co S.gen rfl (PySem.W.codeRec_of heap0 hcd) (hb _ _ _ _ ?_)
  refine wpAny_newFunctionEnv_cells S.kind (fun y hy => ?_) fun env he s1 ic => ?_
  · have ey : y = (x, Value.ref a) := List.mem_singleton.mp hy
    rw [ey]
    rcases S.par x (List.mem_singleton.mpr rfl) with q | q
    · exact Or.inl q
    · exact Or.inr ⟨q, PySem.W.cellsFrom_some _ _ _ (Or.inl q)⟩
  · subst he
    refine ⟨lim0.keeps ic.toInCall.keep, codeAny_func ?_⟩
    obtain ⟨t, pt, q⟩ := D cdv s H a ns hl hT hS
    have I := inv_start (CX := CX0) (E := E0) (cd := cdv) (f := f) (qual := "law") S hr.hd e0 rfl vals ic
    refine wpAny_mono (pt.nox.run [] s1 _ H _ I q) ?_ ?_
    · intro fl s2 h
      cases fl with
      | ret u =>
        obtain ⟨v, _, H2, J, rv, e⟩ := h
        exact ⟨v, H2, J.os, J.bare, J.base, J.hok, rv, e⟩
      | next => exact (let ⟨_, _, _, z⟩ := h; False.elim z)
      | brk => exact (let ⟨_, _, _, z⟩ := h; False.elim z)
      | cont => exact (let ⟨_, _, _, z⟩ := h; False.elim z)
    · exact fun _ _ z => z
/-- the tables, or the script -/
def tabsAt (cs : List (Addr × Addr)) (G : Hp) : Hp := fun b => if b ∈ cs.map (·.2) then some (.tbl #[]) else G b
/-- what is known of a def's code at the head's heap -/
def CodeKnown (mg : Str → Option Value) (h : Heap) (nm : Str) : Prop :=
  ∃ (a : Addr) (o : Obj) (fd : FuncData) (c P : Addr), mg nm = some (.ref a) ∧ h.get? a = some o ∧ o.data = .func fd ∧ fd.code = .ref c ∧ h.IsCode c P #[] ∧ h.TableAt c P #[]
theorem law_walkT {l : PySem.W.OpenLaw} {q : Program} {loose : List Str} {XP : (Str → Option Value) → Heap → Prop} {YP : World → Heap → Prop} {d : DefRec} {K : Params → PySem.W.Frag} {x : Str} {st : Stmt} {N : List Str} {nms : List Str}
    (hn : l.most = some 63) (hdf : d.params.defaults = []) (S : FnScope N [x] (defScope st)) (hY : ∀ (w : World) (h : Heap), YP w h → (K w.params).In h) (hrec : ∀ nm ∈ nms, ((recsOf q).any fun e => e.name == nm) = true)
    (Fm : ∀ (w : World) (mg : Str → Option Value) (fa : Addr) (h : Heap), (K w.params).In h → h.Ns mainGlobals mg → mg d.name = some (.ref fa) → (∀ nm ∈ nms, CodeKnown mg h nm) →
      ∃ (fd : FuncData) (cs : List (Addr × Addr)), Fun (K w.params) "law" "law" st fa fd ∧ (∀ (s : Shared) (u : Value), BindsTo s fd ⟨[u], []⟩ [(x, u)]) ∧
        (∀ p ∈ cs, h.get? p.2 = some { cls := .none, data := .fields #[] } ∧ (K w.params).lookup p.2 = none ∧ PySem.W.CodeHd h p.1 p.2 ∧ h.IsCode p.1 p.2 #[] ∧ h.TableAt p.1 p.2 #[]) ∧
        ∀ base : Heap, (K w.params).In base → (∀ p ∈ cs, GxR.TabB base mg p.1 p.2) → LawDoesT l.prog w (K w.params) mg base st N fa cs) :
    PySem.W.WalkO q loose XP YP l.row.toRowW d [] (fun f vs => PySem.call f vs) := by
  refine Att.attach_call hn hdf fun w s₀ s1 mg mb fa o pm cd doc a vs ns G Y ho hd hcd hmg hobj hints hlen hgen => ?_
  have hK := hY w _ Y
  have known : ∀ nm ∈ nms, CodeKnown mg s1.heap nm := fun nm hm => by
    obtain ⟨e, he, en⟩ := List.any_eq_true.mp (hrec nm hm)
    have en' : e.name = nm := beq_iff_eq.mp en
    rw [← en']
    exact G.T.tab e he
  obtain ⟨fd, cs, F, hbind, hcs, D⟩ := Fm w mg fa _ hK G.T.g hmg known
  have rv := vals_ints hints
  let u : HO := .frz { cls := .type "list", data := .seq vs.toArray } (.lst (ns.map V.int))
  let free : Bool := ((K w.params).lookup a).isNone
  let H : Hp := tabsAt cs (onlyAt a u free)
  have isT : ∀ b, b ∈ cs.map (·.2) → s1.heap.get? b = some { cls := .none, data := .fields #[] } ∧ (K w.params).lookup b = none := fun b hb => by
    obtain ⟨p, hp, e⟩ := List.mem_map.mp hb
    rw [← e]
    exact ⟨(hcs p hp).1, (hcs p hp).2.1⟩
  have aT : a ∉ cs.map (·.2) := fun z => by
    have e := (isT a z).1
    rw [hobj] at e
    cases e
  have cases3 : ∀ b, H b = none ∨ (b ∈ cs.map (·.2) ∧ H b = some (.tbl #[])) ∨ (b = a ∧ free = true ∧ H b = some u) := fun b => by
    by_cases hb : b ∈ cs.map (·.2)
    · exact Or.inr (Or.inl ⟨hb, if_pos hb⟩)
    · rcases onlyAt_cases a u free b with n | ⟨e, fr, y⟩
      · exact Or.inl ((if_neg hb).trans n)
      · exact Or.inr (Or.inr ⟨e, fr, (if_neg hb).trans y⟩)
  have lenV : vs.length = ns.length := hints.length
  have small : ns.length ≤ sizeLine := Nat.le_trans hlen (by decide)
  have hS : SqL (K w.params) H a (ns.map V.int) := by
    cases e : (K w.params).lookup a with
    | none =>
      refine Or.inl (Or.inr ⟨{ cls := .type "list", data := .seq vs.toArray }, ?_⟩)
      show tabsAt cs (onlyAt a u free) a = some u
      unfold tabsAt
      rw [if_neg aT]
      exact if_pos ⟨rfl, by show ((K w.params).lookup a).isNone = true; rw [e]; rfl⟩
    | some ob =>
      have e1 := (hK a ob e).symm.trans hobj
      cases Option.some.inj e1
      exact Or.inr ⟨_, vs.toArray, _, e, rfl, rfl, rfl, by rw [List.size_toArray, lenV]; exact small, by rw [List.toList_toArray]; exact rv⟩
  have hHok : HOk l.prog w H s1.heap := fun b z e => by
    rcases cases3 b with n | ⟨hb, y⟩ | ⟨rfl, _, y⟩
    · cases n.symm.trans e
    · cases y.symm.trans e
      exact (isT b hb).1
    · cases y.symm.trans e
      exact ⟨hobj, by rw [List.length_map]; exact small, vs, _, rv, hobj⟩
  have isN : ∀ {b : Addr} {ob : Obj}, s1.heap.get? b = some ob → (∀ its n, ob.data ≠ .seq its n) → ob.data ≠ .fields #[] → H b = none := fun {b ob} e nd nf => by
    rcases cases3 b with n | ⟨hb, _⟩ | ⟨rfl, _, _⟩
    · exact n
    · cases (isT b hb).1.symm.trans e
      exact absurd rfl nf
    · cases hobj.symm.trans e
      exact absurd rfl (nd _ _)
  have nsK : ∀ {b : Addr} {m : Str → Option Value}, s1.heap.Ns b m → (hidT s1.heap H).Ns b m := by
    rintro b m ⟨ob, es, ep, e, dt, r⟩
    exact ⟨ob, es, ep, hidT_get e (isN e (fun its n z => nomatch dt.symm.trans z) fun z => nomatch dt.symm.trans z), dt, r⟩
  have inB : (K w.params).In (hidT s1.heap H) := fun b ob e => hidT_get (hK b ob e) (by
    rcases cases3 b with n | ⟨hb, _⟩ | ⟨rfl, fr, _⟩
    · exact n
    · rw [(isT b hb).2] at e
      cases e
    · have fr' : ((K w.params).lookup b).isNone = true := fr
      rw [e] at fr'
      cases fr')
  have hM : Mod (K w.params) mg (hidT s1.heap H) := ⟨inB, nsK G.T.g, ⟨mb, nsK G.T.b, G.T.builtins⟩, let ⟨mc, h1, h2⟩ := G.T.nolimit; ⟨mc, nsK h1, h2⟩⟩
  have TB : ∀ p ∈ cs, GxR.TabB (hidT s1.heap H) mg p.1 p.2 := fun p hp => by
    obtain ⟨t1, t2, t3, _⟩ := hcs p hp
    refine ⟨?_, ?_, fun z => ?_⟩
    · obtain ⟨ob, us, file, tf, flags, tg, inF, text, tt, e1, r1, r2, r3, r⟩ := t3
      refine ⟨ob, us, file, tf, flags, tg, inF, text, tt, hidT_get e1 (isN e1 (fun its n z => ?_) fun z => ?_), r1, r2, r3, r⟩
      · rw [r2] at z
        cases z
      · rw [r2] at z
        cases z
        simp at r3
    · obtain ⟨bm, ob, b1, b2, b3, b4, b5, b6⟩ := G.T.bmain
      have nG : bm ≠ mainGlobals := fun z => by
        obtain ⟨o', es, ep, e, hd', _⟩ := G.T.g
        rw [z, e] at b3
        cases b3
        rw [hd'] at b6
        cases b6
      have nP : bm ≠ p.2 := fun z => by
        rw [z, t1] at b3
        cases b3
        cases b6
      refine ⟨bm, ob, b1, b2, nG, nP, hidT_get b3 (isN b3 (fun its n z => ?_) fun z => ?_), b4, b5, b6⟩
      · rw [b6] at z
        cases z
      · rw [b6] at z
        cases z
    · obtain ⟨o', es, ep, e, hd', _⟩ := G.T.g
      rw [z, t1] at e
      cases e
      cases hd'
  have e0 : Env0 l.prog w (K w.params) mg (hidT s1.heap H) callerA [] s1 H :=
    { frames := rfl, mod := hM, bs := fun b ob e => of_hidT e, bsz := Nat.le_of_eq (hidT_size _ _), funs := True.intro, frf := fun b hb => (List.not_mem_nil hb).elim, hok := hHok, bare := .of_eq hgen }
  have hT : ∀ p ∈ cs, H p.2 = some (.tbl #[]) := fun p hp => if_pos (List.mem_map.mpr ⟨p, hp, rfl⟩)
  refine codeAny_mono (law_atT F S ⟨rfl, by decide, by decide⟩ (D _ inB TB) hT e0 (hbind s1 (.ref a)) hlen hS) fun r s2 h => ?_
  cases r with
  | error e => exact False.elim h
  | ok fl =>
    cases fl with
    | next => exact False.elim h
    | brk => exact False.elim h
    | cont => exact False.elim h
    | ret v0 =>
      obtain ⟨v, H2, os, bare, un, hok2, r2, ev⟩ := h
      have ev' : v = .bl true := ev
      rw [ev'] at r2
      have e3 : v0 = Value.bool true := r2
      rw [e3]
      have key : ∀ b ob, b ∉ cs.map (·.2) → s1.heap.get? b = some ob → s2.heap.get? b = some ob := fun b ob nb e => by
        rcases cases3 b with n | ⟨hb, _⟩ | ⟨rfl, _, y⟩
        · exact un.keep b ob e n List.not_mem_nil List.not_mem_nil
        · exact absurd hb nb
        · have k2 := hok2 b _ (un.frzs b _ _ y)
          cases hobj.symm.trans e
          exact k2.1
      have grown : ∀ p ∈ cs, ∃ more : Array Value, s2.heap.get? p.2 = some { cls := .none, data := .fields more } := fun p hp => by
        obtain ⟨more, z⟩ := un.tbls p.2 #[] (hT p hp)
        exact ⟨_, hok2 p.2 _ z⟩
      refine ⟨rfl, ⟨fun b ob e => ?_, fun b ob e => ?_⟩, os, bare⟩
      · by_cases hb : b ∈ cs.map (·.2)
        · obtain ⟨p, hp, ep⟩ := List.mem_map.mp hb
          obtain ⟨more, hm⟩ := grown p hp
          rw [← ep] at e ⊢
          obtain ⟨t1, _, t3, _⟩ := hcs p hp
          rw [t1] at e
          cases e
          exact Or.inr (Or.inl ⟨(t3.tab t1).isCodeTable, rfl, #[], more, rfl, by rw [Array.empty_append]; exact hm⟩)
        · exact Or.inl (key b ob hb e)
      · by_cases hb : b ∈ cs.map (·.2)
        · obtain ⟨p, hp, ep⟩ := List.mem_map.mp hb
          obtain ⟨more, hm⟩ := grown p hp
          rw [← ep]
          exact ⟨_, hm⟩
        · exact ⟨ob, key b ob hb e⟩
/-! ### expressions inside a generator expression's own frame, whatever has come since the state s -/
theorem keepsT {a b c : Shared} (x : PySem.Keeps a b) (y : PySem.Keeps b c) : PySem.Keeps a c := by
  obtain ⟨h, t, rfl, k⟩ := x
  obtain ⟨h2, t2, rfl, k2⟩ := y
  exact ⟨h2, t2, rfl, fun b o e => k2 b o (k b o e)⟩
theorem keepsK {a b : Shared} (x : PySem.Keeps a b) (t : Nat) : PySem.Keeps a { b with toks := t } := keepsT x (GxR.keeps_tok b t)
theorem keepsH {a b : Shared} (x : PySem.Keeps a b) : ∀ c o, a.heap.get? c = some o → b.heap.get? c = some o := by
  obtain ⟨h, t, rfl, k⟩ := x
  exact k
def GV (P : Program) (w : World) (A : Around) (env : Env) (s : Shared) (e : Expr) (R : Value → Prop) : Prop :=
  ∀ (E : Value → Shared → Prop) (s1 : Shared), PySem.Keeps s s1 → wpAny (model P w) A (eval e env) (fun y s2 => R y ∧ PySem.Keeps s s2) E s1
abbrev IsI (i : Int) : Value → Prop := fun y => ∃ t, y = .int i t
section
variable {P : Program} {w : World} {A : Around} {env : Env} {s : Shared} {a b : Expr} {pos p : Pos} {x : Str}
theorem gv_loc {m : Str → Option Value} {v : Value} {R : Value → Prop} (hk : env.scope.kind = .function) (hl : env.scope.names.lookup x = some .local) (hn : s.heap.Ns env.locals m) (hv : m x = some v) (r : R v) (hd : (x == ("__debug__" : Str)) = false := by decide) :
    GV P w A env s (.Name x p) R := fun E s1 k =>
  wpAny_Name (wpAny_loadName_local hk (show env.scope.names.lookup x = some .local from hl) (hn.keeps (keepsH k)) hv ⟨r, k⟩) hd
theorem gv_free {c : Addr} {v : Value} {R : Value → Prop} (hk : env.scope.kind = .function) (hl : env.scope.names.lookup x = some .free) (hc : env.cells.lookup x = some c) (hv : s.heap.IsCell c (some v)) (r : R v) (hd : (x == ("__debug__" : Str)) = false := by decide)
    (hcd : (x == ("__classdict__" : Str)) = false := by decide) : GV P w A env s (.Name x p) R := fun E s1 k =>
  wpAny_Name (wpAny_loadName_free hk (show env.scope.names.lookup x = some .free from hl) hc (let ⟨o, ho, hd⟩ := hv; ⟨o, keepsH k _ _ ho, hd⟩) ⟨r, k⟩ hcd) hd
theorem gv_int {i : Int} {j : Nat} : GV P w A env s (.Constant (.int i) j pos) (IsI i) := fun E s1 k => wpAny_Constant_int ⟨⟨_, rfl⟩, keepsK k _⟩
theorem gv_sub {i j : Int} (ha : GV P w A env s a (IsI i)) (hb : GV P w A env s b (IsI j)) : GV P w A env s (.BinOp a .Sub b pos) (IsI (i - j)) := fun E s1 k => by
  refine wpAny_BinOp (wpAny_mono (ha E s1 k) (fun y s2 ⟨⟨t, e⟩, k2⟩ => wpAny_mono (hb E s2 k2) (fun z s3 ⟨⟨u, e'⟩, k3⟩ => ?_) fun _ _ h => h) fun _ _ h => h)
  subst e
  subst e'
  exact sub_int ⟨⟨_, rfl⟩, keepsK k3 _⟩
theorem gv_add {i j : Int} (ha : GV P w A env s a (IsI i)) (hb : GV P w A env s b (IsI j)) : GV P w A env s (.BinOp a .Add b pos) (IsI (i + j)) := fun E s1 k => by
  refine wpAny_BinOp (wpAny_mono (ha E s1 k) (fun y s2 ⟨⟨t, e⟩, k2⟩ => wpAny_mono (hb E s2 k2) (fun z s3 ⟨⟨u, e'⟩, k3⟩ => ?_) fun _ _ h => h) fun _ _ h => h)
  subst e
  subst e'
  exact add_int ⟨⟨_, rfl⟩, keepsK k3 _⟩
/-- the item of a tuple -/
theorem gv_ix {t : Addr} {xs : List V} {its : List Value} {i : Int} {v : V} {R : Value → Prop} (ha : GV P w A env s a (· = .ref t)) (hb : GV P w A env s b (IsI i)) (ht : IsTup s.heap t its.toArray) (r : Vals xs its) (hz : xs.length ≤ sizeLine)
    (he : atI xs i = some v) (hr : ∀ u, RelV v u → R u) (hs : PlainIx b) : GV P w A env s (.Subscript a b pos) R := fun E s1 k => by
  refine Subscript_ (wpAny_mono (ha E s1 k) (fun y s2 ⟨e, k2⟩ => wpAny_mono (hb E s2 k2) (fun z s3 ⟨⟨u, e'⟩, k3⟩ => ?_) fun _ _ h => h) fun _ _ h => h)
  subst e
  subst e'
  obtain ⟨j, h1, h2, h3, h4, h5⟩ := atI_get he
  obtain ⟨w', ew, rw'⟩ := r.get h2
  have hl := r.length
  have hn := line63
  have ht3 := ht.keeps (keepsH k3)
  exact subscriptTail_builtinR (x := w') ht3.typeIs slot_tuple_getitem.lookup
    (getItem_tuple (j := j) (Q := fun r' s' => r' = w' ∧ (R r' ∧ PySem.Keeps s s')) ht3 (by omega) (by omega) (by rw [List.size_toArray, ← hl]; exact h1) (by simpa using ew) ⟨rfl, hr _ rw', k3⟩) (hs _ _)
/-- no test -/
theorem gt_nil {i : Bool} (hi : i = true) : ∀ E : Value → Shared → Prop, wpAny (model P w) A (forIn ([] : List Expr) true fun c r => if r = true then do let ok ← isTrue c env (eval c env); pure (ForInStep.yield ok) else pure (ForInStep.yield r)) (fun ok s3 => ok = i ∧ PySem.Keeps s s3) E s := fun E => by
  subst hi
  exact wpAny_pure ⟨rfl, GxR.keeps_refl _⟩
/-- one test: a != b -/
theorem gt_ne {i j : Int} (ha : GV P w A env s a (IsI i)) (hb : GV P w A env s b (IsI j)) (hm : behindInMarks .NotEq b = false := by with_unfolding_all rfl) : ∀ E : Value → Shared → Prop, wpAny (model P w) A (forIn [Expr.Compare a [.NotEq] [b] pos] true fun c r => if r = true then do let ok ← isTrue c env (eval c env); pure (ForInStep.yield ok) else pure (ForInStep.yield r)) (fun ok s3 => ok = (i != j) ∧ PySem.Keeps s s3) E s := fun E => by
  rw [List.forIn_cons]
  simp only [if_true, List.forIn_nil]
  refine wpAny_bind (wpAny_bind (wpAny_isTrue_Compare1 (wpAny_mono (ha E s (GxR.keeps_refl _)) (fun y s2 ⟨⟨t, e⟩, k2⟩ => wpAny_mono (hb E s2 k2) (fun z s3 ⟨⟨u, e'⟩, k3⟩ => ?_) fun _ _ h => h) fun _ _ h => h) hm))
  subst e
  subst e'
  exact ne_int (wpAny_truthy_bool (wpAny_pure (wpAny_pure ⟨rfl, k3⟩)))
end
/-- a captured name, where the generator expression starts -/
theorem Inv.freeAt {X : Cx} {pins : List (Addr × Obj)} {σ : L2.St} {H : Hp} {s : Shared} {i : Nat} {x : Str} {v : V} (I : Inv X pins σ H s) (hN : X.N[i]? = some x) (e : σ[i]? = some (some v)) (hc : X.env.scope.names.lookup x = some .cell) :
    ∃ u c, RelV v u ∧ X.env.cells.lookup x = some c ∧ s.heap.IsCell c (some u) := by
  obtain ⟨m, hn, hl⟩ := I.loc
  obtain ⟨u, r, l⟩ := hl i x v hN e (Or.inr (Or.inl hc))
  rcases l with ⟨hk, _⟩ | ⟨_, c, hc', hcell⟩
  · have hk' : X.env.scope.names.lookup x = some .local := hk
    rw [hc] at hk'
    cases hk'
  · exact ⟨u, c, r, hc', hcell⟩
theorem clo_at {cells : List (Str × Addr)} {x : Str} {c : Addr} (hc : cells.lookup x = some c) : ∀ (names : List (Str × NameKind)) (acc : List (Str × Addr)), ((x, NameKind.free) ∈ names ∨ acc.lookup x = some c) → (cloFrom cells names acc).lookup x = some c
  | [], _, h => h.elim (fun z => absurd z List.not_mem_nil) id
  | (n, k) :: r, acc, h => by
    unfold cloFrom
    by_cases hk : k = .free
    · rw [if_pos (by rw [hk]; rfl)]
      refine clo_at hc r _ ?_
      by_cases nx : x = n
      · subst nx
        refine Or.inr ?_
        rw [List.lookup_cons, hc]
        simp
      · rcases h with h | h
        · rcases List.mem_cons.mp h with z | z
          · exact absurd (congrArg Prod.fst z) nx
          · exact Or.inl z
        · refine Or.inr ?_
          rw [List.lookup_cons]
          have : (x == n) = false := beq_eq_false_iff_ne.mpr nx
          rw [this]
          exact h
    · rw [if_neg (by simpa using hk)]
      refine clo_at hc r acc ?_
      rcases h with h | h
      · rcases List.mem_cons.mp h with z | z
        · exact absurd (congrArg Prod.snd z).symm hk
        · exact Or.inl z
      · exact Or.inr h
theorem gen_free {sc sc' : Scope} {n : Nat} (h : (sc'.names.all fun y => y.2 != NameKind.free || sc.names.lookup y.1 == some NameKind.cell) = true) : ∀ y ∈ sc'.names, y.2 = .free → ∃ c, (cellsFrom n sc.names []).lookup y.1 = some c := fun y hy hf => by
  have q := List.all_eq_true.mp h y hy
  rw [hf] at q
  refine cell_has ?_
  simpa using q
/-- a def whose code object is known -/
theorem Fun.okC {P : Program} {w : World} {K : PySem.W.Frag} {mg : Str → Option Value} {base : Heap} {x qual : Str} {st : Stmt} {f c : Addr} {fd : FuncData} {N ps : List Str} {k : Nat} {sp : Sp} (F : Fun K x qual st f fd) (hc : fd.code = .ref c) (S : FnScope N ps (defScope st)) (len : ∀ vs H Q E, sp vs H Q E → vs.length = ps.length)
    (hbody : ∀ (A : Around) (outer : List Env) (s : Shared) (H : Hp) (vs : List V) (Q : VK) (E : XK), Room k (A.deeper (envOfC qual (defScope st) s.heap.objs.size f (.ref c))) → sp vs H Q E →
      ∃ t, PSs (cxOf CX0 P w K mg base N qual (defScope st) f (.ref c) A outer s H E).nox (defBody st) t ∧ t { nx := fun _ H' => Q .non H', rt := Q } (start N vs) H) : FnOk P w K mg base CX0 (k + 1) f fd ps sp := by
  obtain ⟨oc, od, kV, doc, pm, an, cdv, ct, osl, rfl, lk, hcd⟩ := F.ex
  have hc' : cdv = .ref c := hc
  subst hc'
  refine fn_of lk hcd S len fun A outer s H vs Q E hr hsp => ?_
  obtain ⟨t, h, q⟩ := hbody A outer s H vs Q E hr hsp
  exact ⟨t, h.nox, q⟩
/-! ### the tables of the text's code objects -/
def TabField (o : Obj) (P : Addr) : Prop := ∃ vs, o.data = .fields vs ∧ vs[11]? = some (.ref P)
theorem tab_mk {K : PySem.W.Frag} {h : Heap} {mg : Str → Option Value} {nm : Str} {f c P : Addr} {o oc : Obj} {fd : FuncData} (X : K.In h) (hm : mg nm = some (.ref f)) (l : K.lookup f = some o) (hd : o.data = .func fd) (hc : fd.code = .ref c)
    (kk : K.lookup c = some oc) (vv : TabField oc P) (nn : K.lookup P = none) (ck : CodeKnown mg h nm) :
    h.get? P = some { cls := .none, data := .fields #[] } ∧ K.lookup P = none ∧ PySem.W.CodeHd h c P ∧ h.IsCode c P #[] ∧ h.TableAt c P #[] := by
  obtain ⟨a, o', fd', c', P', m1, m2, m3, m4, m5, m6⟩ := ck
  rw [hm] at m1
  cases m1
  rw [X _ _ l] at m2
  cases m2
  rw [hd] at m3
  cases m3
  rw [hc] at m4
  cases m4
  obtain ⟨vs, v1, v2⟩ := vv
  have e : P' = P := by
    obtain ⟨⟨o2, vs2, t1, _, t3, t4⟩, _⟩ := m6
    rw [X _ _ kk] at t1
    cases t1
    rw [v1] at t3
    cases t3
    rw [v2] at t4
    cases t4
    rfl
  subst e
  exact ⟨m6.2, nn, PySem.W.CodeHd.of m5 m6, m5, m6⟩
/-! ### lists or tuples; zip of tuples -/
section
variable {X : Cx}
theorem ixSK (K : PySem.W.Frag) (h : X.K = K) : IxR X (rIx K) := h ▸ ix_seq
end
def SqA (K : PySem.W.Frag) (H : Hp) (a : Addr) (xs : List V) : Prop := SqL K H a xs ∨ SqT K H a xs
theorem SqA.same {K : PySem.W.Frag} {H J : Hp} {a : Addr} {xs : List V} (s : Same H J) (h : SqA K H a xs) : SqA K J a xs := h.elim (fun z => .inl (s.seq z)) fun z => .inr (sameT s z)
theorem walk_zipT {K : PySem.W.Frag} {a b : Addr} {xs ys : List V} {n : Nat} (hn : n = min xs.length ys.length) : Walk (RZ.ItzT K a b) n (fun H => SqT K H a xs ∧ SqT K H b ys) (YPair (fun i => xs[i]?) (fun i => ys[i]?)) := by
  refine ⟨fun i H hi q => ⟨xs, ys, xs[i], ys[i], q.1, q.2, List.getElem?_eq_getElem (by omega), List.getElem?_eq_getElem (by omega)⟩, fun H q => ⟨xs, ys, q.1, q.2, by omega⟩, fun i H v H' hi q y => ?_⟩
  obtain ⟨T, x, y', e, hT, eH, f, g⟩ := y
  exact ⟨T, x, y', e, hT, eH, f _ q.1, g _ q.2⟩
/-- two names, in a comprehension -/
theorem pg_pairK (K : PySem.W.Frag) {X : Cx} {i j k : Nat} {x y : Str} {p q pos : Pos} (hK : X.K = K) (hc : X.calm = true) (hN : X.N.Nodup) (hi : X.N[i]? = some x) (hx : Loc X.env.scope x) (hj : X.N[j]? = some y) (hy : Loc X.env.scope y)
    (hf : X.fn x = true ∨ X.env.scope.names.lookup x = some .local := by first | exact .inl rfl | exact .inr rfl) (hf' : X.fn y = true ∨ X.env.scope.names.lookup y = some .local := by first | exact .inl rfl | exact .inr rfl) :
    PG X (.Tuple [.Name x p, .Name y q] k pos) (gTup K 2 (gCons (gName i) (gCons (gName j) gNil))) := by
  subst hK
  exact pg_tup hc (pgs_cons (pg_name hN hi hx hf) (pgs_cons (pg_name hN hj hy hf') pgs_nil))
/-! ### (x,) * k, long -/
def rRepOne (K : PySem.W.Frag) : R2 := fun x y H Q => ∃ (l : Addr) (k : Int) (v : V), x = .ref l ∧ y = .int k ∧ SqT K H l [v] ∧ 2 ≤ k ∧ k ≤ 9000 ∧ ∀ p, H p = none → Q (.ref p) (upd H p (.tup (List.replicate k.toNat v)))
theorem one_rep (u : Value) (m : Nat) : (List.foldl (fun a b => a ++ b) #[] (List.replicate m #[u])) = (List.replicate m u).toArray := by
  have e := size_rep [u] m
  rw [List.flatten_replicate_singleton] at e
  exact e
theorem op_repOne {X : Cx} : OpR X (binaryOp .Mult) (rRepOne X.K) := by
  rintro pins s σ H _ _ _ _ Q I rx ry ⟨l, k, v, rfl, rfl, hT, lo, hi, q⟩
  cases rx
  obtain ⟨tk, rfl⟩ := ry
  obtain ⟨its, r, ⟨⟨cl, dd, dat, sl⟩, ho, rfl, n, rfl⟩, _⟩ := I.tuple hT
  cases r with
  | cons ru rn =>
  rename_i u us
  cases rn
  have fits : (List.replicate k.toNat u).toArray.size ≤ sizeLine := by
    rw [List.size_toArray, List.length_replicate]
    exact Nat.le_trans (by omega : k.toNat ≤ 9000) (by decide)
  have sz1 : (([u].toArray.size : Nat) : Int) * k = k := Int.one_mul k
  have far : (decide (k < -(2 ^ 63)) || decide (k ≥ 2 ^ 63)) = false := by
    rw [Bool.or_eq_false_iff]
    exact ⟨decide_eq_false (by omega), decide_eq_false (by omega)⟩
  have few : Builtin.Tuple.tupleTooMany (([u].toArray.size : Nat) * k) = false := by
    rw [sz1]
    show decide _ = false
    refine decide_eq_false ?_
    have := sizeLine_eq
    omega
  have many : (([u].toArray.isEmpty || k == 1) = false) ∧ ((decide (k ≤ 0) || [u].toArray.isEmpty) = false) := by
    refine ⟨?_, ?_⟩
    · show (false || k == 1) = false
      rw [Bool.false_or]
      exact beq_eq_false_iff_ne.mpr (by omega)
    · show (decide (k ≤ 0) || false) = false
      rw [Bool.or_false]
      exact decide_eq_false (by omega)
  have W := tuple_mulW l [u].toArray n dd sl k tk far many.1 many.2 (by rw [sz1]; omega) few (by rw [show [u].toArray = #[u] from rfl, one_rep]; exact fits)
  have isT : s.TypeIs (.ref l) "tuple" := ⟨_, ho, rfl⟩
  refine wpAny_binaryOp_repeat_ref (T := "tuple") (U := "int") (by decide) isT (fun z => typeIs_int z k tk) noFill_tuple_mul F.fills_int_mul F.slot_int_rmul repeat_tuple F.slot_int_index.lookup ?_
  refine call_meets F.slot_int_rmul (typeIs_int s k tk) F.entry_int_rmul (F.args_int_rmul_2 _ _) (int_rmul_tuple k tk l [u].toArray n dd sl) ⟨ho, rfl, isT, ?_⟩
  refine call_meets F.slot_tuple_mul isT F.entry_tuple_mul (F.args_tuple_mul_2 _ _) W ⟨ho, ?_⟩
  rw [show [u].toArray = #[u] from rfl, one_rep]
  have vals : Vals (List.replicate k.toNat v) (List.replicate k.toNat u) := by
    generalize k.toNat = m
    induction m with
    | zero => exact .nil
    | succ m ih => exact .cons ru ih
  refine ⟨.ref s.heap.objs.size, _, I.laid (t' := s.toks) (o := .tup (List.replicate k.toNat v)) (fun b o e => Heap.get?_push_of_some _ e) (Nat.le_refl _) ⟨?_, _, vals, _, Heap.get?_push_size _ rfl, rfl, _, rfl⟩, rfl, q _ (I.hok.fresh (Nat.le_refl _))⟩
  rw [List.length_replicate]
  exact Nat.le_trans (by omega : k.toNat ≤ 9000) (by decide)
theorem nil_tup (ds : List PyData) : PyData.eqv (.tuple ds) (.tuple []) = ds.isEmpty := by
  cases ds <;> simp [PyData.eqv, PyData.eqvAll]
/-! ### set(list of numbers), as a set that can be sorted; sorted(set(..)) -/
/-- the new, empty set -/
abbrev noneYet (w : World) : Obj := { cls := .type "set", dict := none, data := .set #[] 0 (.fresh 0 0 (!w.params.followText "set-order")) }
section
variable {P : Program} {w : World} {A : Around} {E : Value → Shared → Prop} {s : Shared}
theorem set_of_list {src : Addr} {vals : Array Value} (ns : List Int) {Q : Value → Shared → Prop} (calm : A.handled = none) (isL : s.heap.IsList src vals) (nums : IntsAre vals.toList ns) (few : ns.length + 1 < scanBound)
    (fin : ∀ (g : Heap) (tk m : Nat), SetR w g s.heap.objs.size (fun j => decide (j ∈ ns)) m → m ≤ ns.length → (∀ b o, s.heap.get? b = some o → g.get? b = some o) → Q (.ref s.heap.objs.size) { s with heap := g, toks := tk }) :
    wpAny (model P w) A (call (.type "set") [.ref src]) Q E s := by
  have many : vals.size = ns.length := (Array.length_toList (xs := vals)).symm.trans nums.length
  obtain ⟨cc, cl, ho⟩ := F.called_set.mro
  have ⟨m1, m2, m3, m4⟩ := And.intro F.called_set.made (And.intro F.called_set.sub (And.intro F.called_set.notType F.called_set.canCreate))
  have m5 := F.typeCall_set_1 (Value.ref src)
  refine wpAny_call (codeAny_of_tree (show wpAny _ _ (callAny (.type "set") _) _ _ _ from ?_))
  refine wpAny_pure (And.intro (Code.quiet_builtin _ (by decide +kernel)) (codeAny_builtin F.entry_type_call ?_))
  rw [Around.under_plain (weight_type_call_type "set" [Value.ref src] []) rfl]
  repeat (any_goals (first | assumption | wp_step))
  refine codeAny_mono (code_set_led1 (Value.ref src) (E := E) (Q₁ := fun u t => u = .ref s.heap.objs.size ∧ t = { s with heap := s.heap.push (noneYet w) }) (And.intro rfl rfl)) fun r1 t1 z1 => ?_
  cases r1 with
  | error _ => exact z1
  | ok f1 =>
  cases f1 with
  | next => exact z1.elim
  | brk => exact z1.elim
  | cont => exact z1.elim
  | ret u =>
  obtain ⟨rfl, rfl⟩ := z1
  have at0 : (s.heap.push (noneYet w)).get? s.heap.objs.size = some (noneYet w) := Heap.get?_push_size _ rfl
  have ty0 : Shared.TypeIs { s with heap := s.heap.push (noneYet w) } (.ref s.heap.objs.size) "set" := ⟨_, at0, rfl⟩
  have n1 := F.called_set.init.lookup
  have n2 := F.called_set.init.bind (Value.ref s.heap.objs.size)
  repeat (any_goals (first | assumption | wp_step))
  refine codeAny_mono (codeAny_call_builtin (R := wants (fun r t => r = .none ∧ ∃ (g : Heap) (tk m : Nat), t = { s with heap := g, toks := tk } ∧ SetR w g s.heap.objs.size (fun j => decide (j ∈ ns)) m ∧ m ≤ ns.length ∧ (∀ b o, s.heap.get? b = some o → g.get? b = some o)) E)
    F.called_set.init.plain F.entry_set_init (check_set_init_1 ty0 ?_)) fun r2 t2 z2 => ?_
  · obtain ⟨⟨lc, ld, lx, ls⟩, at1, k1, len, k2⟩ := isL
    simp only at k1 k2
    subst k1 k2
    have at2 : (s.heap.push (noneYet w)).get? src = some { cls := .type "list", dict := ld, data := .seq vals len, slots := ls } := Heap.get?_push_of_some _ at1
    have o1 := F.sub_list_set
    have o2 := F.sub_list_frozenset
    have o3 : (Value.type "list" == Value.type "dict") = false := by decide
    have isL2 : (s.heap.push (noneYet w)).IsList src vals := ⟨_, at2, rfl, len, rfl⟩
    unfold Builtin.«set.__init__» noKeywords Builtin.Frozenset.updateFrom
    generalize keep : pyIter = PI
    wp_walk
    subst keep
    refine wpAny_pyIter_list isL2 (wpAny_bind (wpAny_runValue ?_))
    have lt := Heap.lt_size at1
    have sz : (s.heap.push (noneYet w)).objs.size = s.heap.objs.size + 1 := Heap.size_push ..
    have calm3 : A.in1.in1.in1.handled = none := by simp only [Around.in1, calm]
    have apart : src ≠ (s.heap.push (noneYet w)).objs.size := fun z => by
      rw [z, sz] at lt
      exact absurd lt (Nat.not_lt_of_le (Nat.le_succ _))
    have out : s.heap.objs.size ∉ [(s.heap.push (noneYet w)).objs.size, src] := fun z => by
      rcases List.mem_cons.mp z with z | z
      · rw [sz] at z
        exact absurd z (Nat.ne_of_lt (Nat.lt_succ_self _))
      · rw [List.mem_singleton.mp z] at lt
        exact Nat.lt_irrefl _ lt
    have each : ∀ (i : Nat) (v : Value), vals[i]? = some v → ∃ k t, ns[i]? = some k ∧ v = .int k t := fun i v hv => by
      have li : i < ns.length := many ▸ (Array.getElem?_eq_some_iff.mp hv).1
      obtain ⟨t, e⟩ := PyProof.Rows.IntsAre.int_at nums i v (by rw [Array.getElem?_toList]; exact hv)
      exact ⟨ns[i], t, List.getElem?_eq_getElem li, by rw [e, List.getD_eq_getElem?_getD, List.getElem?_eq_getElem li]; rfl⟩
    refine set_update_ints (Walks.list calm3 _ src apart vals).toS s.heap.objs.size out ns many few each (vals.size - 0) 0 _ rfl (Nat.zero_le _) ⟨⟨_, Heap.get?_push_size _ rfl, rfl, rfl⟩, isL2.push _⟩
      ⟨0, Nat.le_refl 0, setR_new_at (Heap.get?_push_of_some _ at0)⟩ fun t m mv lm Rt => ?_
    obtain ⟨g, gg, dd, tk, os⟩ := t
    obtain rfl : gg = s.gens := mv.gens
    obtain rfl : dd = s.drawn := mv.drawn
    obtain rfl : os = s.os := mv.os
    show wpAny _ _ _ _ _ _
    refine wpAny_pure (show wpAny _ _ (ret Value.none) _ _ _ from wpAny_pure ⟨rfl, g, tk, m, rfl, Rt, many ▸ lm, fun b o e => ?_⟩)
    have lb := Heap.lt_size e
    refine mv.heap b o (fun z => ?_) (Heap.get?_push_of_some _ (Heap.get?_push_of_some _ e))
    rcases List.mem_cons.mp z with z | z
    · rw [z] at lb
      exact Nat.lt_irrefl _ lb
    · rw [List.mem_singleton.mp z, sz] at lb
      exact absurd lb (Nat.not_lt_of_le (Nat.le_succ _))
  · cases r2 with
    | error _ => exact z2
    | ok f2 =>
    cases f2 with
    | next => exact z2.elim
    | brk => exact z2.elim
    | cont => exact z2.elim
    | ret _ =>
    obtain ⟨rfl, g, tk, m, rfl, Rt, lm, old⟩ := z2
    repeat (any_goals (first | assumption | wp_step))
    exact fin g tk m Rt lm old
end
section
variable {X : Cx}
def rSetN (K : PySem.W.Frag) (w : World) : List V → Hp → VK → Prop := fun xs H Q => ∃ (l : Addr) (ns : List Int), xs = [V.ref l] ∧ SqA K H l (ns.map V.int) ∧ ns.length < 64 ∧ ∀ (p : Addr) (m : Nat), m ≤ ns.length → H p = none → Q (.ref p) (upd H p (SetO w p (fun j => decide (j ∈ ns)) m))
theorem cr_setN (hc : X.calm = true) : CallR X (.type "set") (rSetN X.K X.w) := by
  intro pins s σ H xs us Q I r h
  obtain ⟨l, ns, rfl, hq, h64, q⟩ := h
  rw [Vals.ref1 r]
  have few : ns.length + 1 < scanBound := Nat.lt_trans (by omega : ns.length + 1 < 65) (by decide)
  rcases hq with hq | hq
  · obtain ⟨its, rv, pl, _⟩ := I.list hq
    refine set_of_list ns (I.ok.hd hc) pl.isList (RZ.intsAre_vals rv) few fun g tk m R lm old => ?_
    exact ⟨.ref _, _, I.laid (t' := tk) old (Nat.le_refl _) (setO_new R), rfl, q _ m lm (I.hok.fresh (Nat.le_refl _))⟩
  · obtain ⟨its, rv, pl, _⟩ := I.tuple hq
    refine call_set_tupI ns (I.ok.hd hc) (show s.heap.IsTuple l its.toArray from pl) (RZ.intsAre_vals rv) few fun g tk m R lm old => ?_
    exact ⟨.ref _, _, I.laid (t' := tk) old (Nat.le_refl _) (setO_new R), rfl, q _ m lm (I.hok.fresh (Nat.le_refl _))⟩
end
/-- strictly rising lists of the same numbers are the same -/
theorem rising_eq : ∀ {a b : List Int}, a.Pairwise (· < ·) → b.Pairwise (· < ·) → (∀ k, k ∈ a ↔ k ∈ b) → a = b
  | [], [], _, _, _ => rfl
  | [], y :: b, _, _, h => absurd ((h y).mpr List.mem_cons_self) List.not_mem_nil
  | x :: a, [], _, _, h => absurd ((h x).mp List.mem_cons_self) List.not_mem_nil
  | x :: a, y :: b, ha, hb, h => by
    obtain ⟨ha1, ha2⟩ := List.pairwise_cons.mp ha
    obtain ⟨hb1, hb2⟩ := List.pairwise_cons.mp hb
    have e : x = y := by
      rcases List.mem_cons.mp ((h x).mp List.mem_cons_self) with z | z
      · exact z
      · rcases List.mem_cons.mp ((h y).mpr List.mem_cons_self) with u | u
        · exact u.symm
        · have := hb1 x z
          have := ha1 y u
          omega
    subst e
    have t : a = b := rising_eq ha2 hb2 fun k => by
      constructor
      · intro z
        rcases List.mem_cons.mp ((h k).mp (List.mem_cons_of_mem _ z)) with u | u
        · have := ha1 k z
          omega
        · exact u
      · intro z
        rcases List.mem_cons.mp ((h k).mpr (List.mem_cons_of_mem _ z)) with u | u
        · have := hb1 k z
          omega
        · exact u
    rw [t]
/-- out is the numbers of ns in order, each once -/
def Sorted (out ns : List Int) : Prop := out.Pairwise (· < ·) ∧ ∀ k, k ∈ out ↔ k ∈ ns
theorem Sorted.eq {a b ns ms : List Int} (ha : Sorted a ns) (hb : Sorted b ms) (h : ∀ k, k ∈ ns ↔ k ∈ ms) : a = b := rising_eq ha.1 hb.1 fun k => by rw [ha.2, h, hb.2]
/-! ### t.index(k), t a tuple of numbers -/
def rIdxT (K : PySem.W.Frag) : V → List V → Hp → VK → Prop := fun x xs H Q => ∃ (p : Addr) (ns : List Int) (k : Int) (j : Nat), x = .ref p ∧ xs = [.int k] ∧ SqT K H p (ns.map V.int) ∧ ns[j]? = some k ∧ (∀ m, m < j → ns[m]? ≠ some k) ∧ Q (.int (j : Nat)) H
theorem mt_idxT {X : Cx} : MtR X "tuple.index" (rIdxT X.K) := by
  rintro pins s σ H _ _ v us Q I rx rs ⟨p, ns, k, j, rfl, rfl, hq, hk, first, q⟩
  cases rx
  obtain ⟨u, rfl, t, rfl⟩ := vals1 rs
  obtain ⟨its, r, ⟨⟨cl, dd, dat, sl⟩, ho, rfl, n, rfl⟩, _⟩ := I.tuple hq
  have len : its.toArray.size = ns.length := by
    have := r.length
    rw [List.length_map] at this
    rw [List.size_toArray]
    exact this.symm
  have place : ∀ (m : Nat) (hm : m < its.toArray.size), ∃ y t', ns[m]? = some y ∧ its.toArray[m] = Value.int y t' := by
    intro m hm
    have lm : m < ns.length := len ▸ hm
    obtain ⟨v', hv, t', rfl⟩ := r.get (i := m) (x := .int ns[m]) (by rw [List.getElem?_map, List.getElem?_eq_getElem lm]; rfl)
    exact ⟨ns[m], t', List.getElem?_eq_getElem lm, by simpa using (List.getElem?_eq_some_iff.mp hv).2⟩
  have lj : j < its.toArray.size := len ▸ (List.getElem?_eq_some_iff.mp hk).1
  have W := TI.tuple_indexAt p its.toArray n dd sl (.int k t) (eqU (.int k)) j lj (by
    obtain ⟨y, t', h1, h2⟩ := place j lj
    rw [h2, show y = k from Option.some.inj (h1.symm.trans hk)]
    exact beq_self_eq_true k) (by
    intro m hm lt
    obtain ⟨y, t', h1, h2⟩ := place m hm
    rw [h2]
    exact beq_eq_false_iff_ne.mpr fun e => first m lt (by rw [h1, e]))
  refine call_meets PySem.F.slot_tuple_index ⟨_, ho, rfl⟩ PySem.F.entry_tuple_index (PySem.F.args_tuple_index_2 _ _) W ⟨ho, fun w' hw => ?_, .int (j : Nat), H, I.tok _, ⟨_, rfl⟩, q⟩
  refine mem_eqAt (x := .int k) ⟨t, rfl⟩ rfl r ?_ w' (by simpa using hw)
  rw [List.all_map]
  exact List.all_eq_true.mpr fun _ _ => rfl
/-! ### tuples made by tuple(list), known to the object; their methods -/
def FrzT (H : Hp) (a : Addr) (xs : List V) : Prop := ∃ o : Obj, o.cls = .type "tuple" ∧ o.dict = none ∧ H a = some (.frz o (.tup xs))
theorem FrzT.sq {K : PySem.W.Frag} {H : Hp} {a : Addr} {xs : List V} (h : FrzT H a xs) : SqT K H a xs := let ⟨o, _, _, e⟩ := h; Or.inl (Or.inr ⟨o, e⟩)
section
variable {X : Cx}
def rTupF (K : PySem.W.Frag) : List V → Hp → VK → Prop := fun xs H Q => ∃ (p : Addr) (ys : List V), xs = [.ref p] ∧ SqL K H p ys ∧ ∀ (l : Addr) (o : Obj), o.cls = .type "tuple" → o.dict = none → H l = none → Q (.ref l) (upd H l (.frz o (.tup ys)))
theorem cr_tupF : CallR X (.type "tuple") (rTupF X.K) := by
  rintro pins s σ H xs us Q I r ⟨p, ys, rfl, hq, q⟩
  rw [Vals.ref1 r]
  obtain ⟨its, rv, pl, hz⟩ := I.list hq
  have few := rv.length
  refine call_tuple_list pl.isList (fun g old => ?_) (by rw [List.size_toArray]; omega)
  have I1 : Inv X pins σ H { s with heap := g } := I.kept (t' := s.toks) old
  let o : Obj := { cls := .type "tuple", data := .seq its.toArray }
  have ok : ObjOk X.prog X.w (upd H g.objs.size (.frz o (.tup ys))) (g.push o) g.objs.size (.frz o (.tup ys)) := ⟨Heap.get?_push_size _ rfl, hz, its, rv, IsTup.new _ _⟩
  exact ⟨.ref g.objs.size, _, I1.laid (t' := s.toks) (fun b u e => Heap.get?_push_of_some _ e) (Nat.le_refl _) ok, rfl, q _ o rfl rfl (I1.hok.fresh (Nat.le_refl _))⟩
def tBMT (r : V → List V → Hp → VK → Prop) (to : TE) (t : TA) : TE := fun σ H Q => to σ H fun x H1 => (∃ (a : Addr) (xs : List V), x = .ref a ∧ FrzT H1 a xs) ∧ t σ H1 fun vs H2 => r x vs H2 Q
variable {o e : Expr} {es : List Expr} {to : TE} {t : TA} {name id : String} {apos cpos : Pos} {r : V → List V → Hp → VK → Prop}
theorem pe_bmT (slot : Slot "tuple" name id) (des : typeOf (.builtin id) = pure (.type "method_descriptor")) (hm : MtR X id r) (ho : PE X o to) (ha : PA X (e :: es) t)
    (plainO : attributeBase o name X.env (eval o X.env) = eval o X.env := by rfl)
    (form : ((backTo cpos (starEach (e :: es) X.env)).all (fun x => !x.1) && (backToKw cpos (keywordEach [] X.env)).all (fun x => x.1.isSome) && decide ((e :: es).length + ([] : List Keyword).length + (if ([] : List Keyword).isEmpty then 0 else 1) < 30)) = true := by rfl)
    (row : (apos.endLine == cpos.line) = true := by rfl) (trees : starEach (e :: es) X.env = (false, eval e X.env) :: starEach es X.env := by rfl)
    (noStar : (backTo cpos (starEach es X.env)).any (·.1) = false := by rfl) : PE X (.Call (.Attribute o name apos) (e :: es) [] cpos) (tBMT r to t) := by
  refine ⟨fun pins s σ H Q I h => wpAny_Call_method_late plainO form row rfl (thn (ho.run pins s σ H _ I h) fun v s1 ⟨x, H1, I1, r1, ⟨a, xs, ex, o1, c1, d1, f1⟩, q1⟩ => ?_)⟩
  subst ex
  cases r1
  obtain ⟨got, _⟩ := I1.hok a _ f1
  refine ⟨"tuple", id, PySem.F.plainAttrs_tuple, slot, des, ⟨o1, got, c1⟩, fun b eb => ?_, ?_⟩
  · cases eb
    exact ⟨o1, got, d1⟩
  · have run := ha.run cpos pins s1 σ H1 _ I1 q1
    rw [trees] at run ⊢
    refine Calls.callWith_builtin ?_ (Calls.evalArgs_plain (thn run fun us s2 ⟨vs, H2, I2, r2, q2⟩ => hm pins s2 σ H2 (.ref a) vs (.ref a) us Q I2 rfl r2 q2))
    show (false || (backTo cpos (starEach es X.env)).any (·.1)) = false
    rw [noStar]
    rfl
end
/-! ### generator expressions whose elements are new objects -/
/-- a value that is brought at a place, with the objects that were made for it -/
abbrev Bring : Type := Nat → Value → List (Addr × Obj) → Prop
def bringP (C : Addr) (fp wr : List Addr) (pz : Nat → Bool) (n : Nat) (B : Bring) : Protocol := fun m s0 v s back =>
  (∃ i news, (passing pz n 0)[(passing pz n 0).length - 1 - m]? = some i ∧ B i v news ∧ (news.map Prod.fst).Nodup ∧ ∀ p ∈ news, p.1 ≠ C ∧ p.1 ∉ wr ∧ s0.heap.get? p.1 = none ∧ s.heap.get? p.1 = some p.2) ∧
  GenSince C wr s0 s ∧ ∀ z : Shared, (∀ b ∈ C :: fp, ∀ o, s.heap.get? b = some o → z.heap.get? b = some o) → back (.send .none) z
def endP (C : Addr) (wr : List Addr) : GenEnd := fun k s0 r s => r = .ok .next ∧ (k = 0 ∧ GenSince C wr s0 s)
structure Makes (P : Program) (w : World) (env : Env) (x : Str) (ifs : List Expr) (elt : Expr) (fp wr : List Addr) (It : Nat → Value → Prop) (pz : Nat → Bool) (B : Bring) (h0 : Heap) : Prop where
  quiet : QuietGen P w env x ifs elt fp wr It pz (fun _ _ => True) h0
  makes : ∀ (A' : Around) E' i v (s : Shared) m, A'.handled = none → It i v → pz i = true → s.heap.Ns env.locals m → m x = some v → (∀ b ∈ fp, b ∉ wr → ∀ o, h0.get? b = some o → s.heap.get? b = some o) →
    wpAny (model P w) A' (eval elt env) (fun y s2 => (∃ news, B i y news ∧ (news.map Prod.fst).Nodup ∧ ∀ p ∈ news, s.heap.get? p.1 = none ∧ s2.heap.get? p.1 = some p.2) ∧ PySem.Keeps s s2) E' s
theorem since_get {C : Addr} {wr : List Addr} {s0 s : Shared} (g : GenSince C wr s0 s) {b : Addr} (h1 : b ≠ C) (h2 : b ∉ wr) (h : s.heap.get? b = none) : s0.heap.get? b = none := by
  obtain ⟨h', t, rfl, k⟩ := g
  cases e : s0.heap.get? b with
  | none => rfl
  | some o => rw [k b o h1 h2 e] at h; cases h
section
variable {P : Program} {w : World} {A : Around} {elt iter : Expr} {x : Str} {px pos : Pos} {ifs : List Expr} {scope : Scope} {I : Addr} {fp wr : List Addr} {n : Nat} {It : Nat → Value → Prop} {St : Nat → Heap → Prop} {env : Env} {pz : Nat → Bool} {B : Bring} {h0 : Heap}
theorem bring_loop (calm : A.handled = none) (W : ∀ A' : Around, A'.handled = none → Walks P w A' I fp wr n It St) (live : ∀ i h, St i h → ∀ b ∈ wr, ∃ o, h.get? b = some o) (hx : env.kindOf x = some .local)
    (hk : (env.scope.kind == .class || (env.scope.kind == .module && env.locals != env.globals)) = false) (co : env.scope.isCoroutine = false) (out : env.locals ∉ fp) (M : Makes P w env x ifs elt fp wr It pz B h0) (k : Nat) :
    ∀ (i : Nat) (s0 s : Shared) (m : Str → Option Value), n - i = k → i ≤ n → St i s.heap → s.heap.Ns env.locals m → GenSince env.locals wr s0 s → (∀ b ∈ fp, b ∉ wr → ∀ o, h0.get? b = some o → s.heap.get? b = some o) →
      Seg (model P w) A (endP env.locals wr) (bringP env.locals fp wr pz n B) (passing pz n i).length s0 (.compLoop (.GeneratorExp elt [⟨.Name x px, iter, ifs, 0⟩] scope pos) 0 (.ref I) .none env)
        ((model P w).den (.compLoop (.GeneratorExp elt [⟨.Name x px, iter, ifs, 0⟩] scope pos) 0 (.ref I) .none env)) [] s := by
  have calm2 : (A.over (.compLoop (.GeneratorExp elt [⟨.Name x px, iter, ifs, 0⟩] scope pos) 0 (.ref I) .none env) []).handled = none := calm
  have notw : env.locals ∉ wr := fun z => out ((W A calm).sub _ z)
  induction k with
  | zero =>
    intro i s0 s m e le st ns since kp
    obtain rfl : i = n := by omega
    refine (?_ : Seg _ A _ _ _ s0 _ ((compTurn (.GeneratorExp elt [⟨.Name x px, iter, ifs, 0⟩] scope pos) 0 (.ref I) .none env).onRaise (leaving env)) [] s)
    rw [Sem.onRaise_eq_wrap, compTurn_gen]
    refine seg_bind_wrap (wpAny_standAt (seg_bind_wrap ((W _ calm2).done s _ _ st fun h' t k' => seg_end (.ok .next) ⟨rfl, ?_, since.step fun b o _ hw e => k' b o hw e⟩)))
    rw [passing_end]
    rfl
  | succ k ih =>
    intro i s0 s m e le st ns since kp
    have lt : i < n := by omega
    refine (?_ : Seg _ A _ _ _ s0 _ ((compTurn (.GeneratorExp elt [⟨.Name x px, iter, ifs, 0⟩] scope pos) 0 (.ref I) .none env).onRaise (leaving env)) [] s)
    rw [Sem.onRaise_eq_wrap, compTurn_gen]
    refine seg_bind_wrap (wpAny_standAt (seg_bind_wrap ((W _ calm2).item i s _ _ lt st fun v h1 t1 hv st1 k1 => seg_bind_wrap (wpAny_of_eq (rfl : letOwnedTupleGo (.Name x px) (.ref I) v = pure ()) (seg_bind_wrap (wpAny_assign_Name (wpAny_storeName_local hx (ns.at' fun o e => k1 _ o notw e) (fun h2 ns2 same2 => ?_) hk)))))))
    have old2 : ∀ b o, b ≠ env.locals → b ∉ wr → s.heap.get? b = some o → h2.get? b = some o := fun b o z1 z2 e => same2.extBut b o z1 (k1 b o z2 e)
    have st2 : St (i + 1) h2 := (W A calm).frame _ _ _ st1 fun b hb o e => same2.extBut b o (fun z => out (z ▸ hb)) e
    have kp2 : ∀ b ∈ fp, b ∉ wr → ∀ o, h0.get? b = some o → h2.get? b = some o := fun b hb z o e => old2 b o (fun y => out (y ▸ hb)) z (kp b hb z o e)
    refine seg_bind_wrap (wpAny_mono (M.quiet.tests _ _ i v _ _ calm2 hv ns2 (by simp) kp2) (fun ok s3 q => ?_) fun _ _ z => z)
    obtain ⟨rfl, h3, t3, rfl, k3⟩ := q
    have st3 : St (i + 1) h3 := (W A calm).frame _ _ _ st2 fun b _ o e => k3 b o e
    have since3 : GenSince env.locals wr s0 { s with heap := h3, toks := t3 } := since.step fun b o z1 z2 e => k3 b o (old2 b o z1 z2 e)
    have ns3 := ns2.keeps k3
    cases hp : pz i with
    | false =>
      rw [passing_false lt hp]
      rw [if_neg (by decide)]
      exact seg_again rfl (ih (i + 1) s0 _ _ (by omega) lt st3 ns3 since3 fun b hb z o e => k3 b o (kp2 b hb z o e))
    | true =>
      have yo : ∀ u, yieldOut env u = yieldValue u := fun u => by simp only [yieldOut, co, Bool.false_eq_true, if_false]
      rw [passing_true lt hp, List.length_cons, if_pos rfl]
      simp only [yo]
      rw [Sem.bind_eq_wrap', Sem.bind_eq_wrap', Sem.wrap_wrap, Sem.wrap_wrap]
      refine seg_wrap (wpAny_mono (M.makes _ _ i v _ _ calm2 hv hp ns3 (by simp) fun b hb z o e => k3 b o (kp2 b hb z o e)) (fun y s4 q => ?_) fun _ _ z => z)
      obtain ⟨⟨news, hB, nd, hn⟩, h4, t4, rfl, k4⟩ := q
      refine seg_at (seg_yield rfl rfl rfl ⟨⟨i, news, passing_here lt hp, hB, nd, fun p hp' => ?_⟩, since3.step fun b o _ _ e => k4 b o e, fun z hz => ?_⟩)
      · obtain ⟨n1, n2⟩ := hn p hp'
        have c1 : p.1 ≠ env.locals := fun e => by
          obtain ⟨ob, es, ep, ho, _⟩ := ns3
          rw [e] at n1
          exact absurd (ho.symm.trans n1) (by simp)
        have c2 : p.1 ∉ wr := fun hw => by
          obtain ⟨ob, ho⟩ := live _ _ st3 p.1 hw
          exact absurd (ho.symm.trans n1) (by simp)
        exact ⟨c1, c2, since_get since3 c1 c2 n1, n2⟩
      · exact seg_again rfl (ih (i + 1) z z _ (by omega) lt ((W A calm).frame _ _ _ st3 fun b hb o e => hz b (List.mem_cons_of_mem _ hb) o (k4 b o e)) ((ns3.keeps k4).at' fun o e => hz _ (List.mem_cons_self ..) o e) (GenSince.refl _ _ _)
          fun b hb y o e => hz b (List.mem_cons_of_mem _ hb) o (k4 b o (k3 b o (kp2 b hb y o e))))
end
/-! ### such an expression, started and drawn from -/
def Ready (P : Program) (w : World) (A : Around) (a : Addr) (g : Nat) (C : Addr) (fp wr : List Addr) (pz : Nat → Bool) (n : Nat) (B : Bring) (j : Nat) (s : Shared) : Prop :=
  s.heap.IsGen a g ∧ s.heap.NoLimit ∧ ∃ gs, s.gens[g]? = some gs ∧ ∀ z : Shared, (∀ b ∈ C :: fp, ∀ o, s.heap.get? b = some o → z.heap.get? b = some o) →
    gs.Goes (model P w) A.in1 (endP C wr) (bringP C fp wr pz n B) ((passing pz n 0).length - j) (.send .none) z
section
variable {P : Program} {w : World} {A : Around} {a C : Addr} {g : Nat} {fp wr : List Addr} {pz : Nat → Bool} {n j : Nat} {B : Bring} {s : Shared}
theorem Ready.keep {h' : Heap} {t : Nat} (R : Ready P w A a g C fp wr pz n B j s) (hcs : cStatics ∈ fp) (k : ∀ b ∈ a :: C :: fp, ∀ o, s.heap.get? b = some o → h'.get? b = some o) : Ready P w A a g C fp wr pz n B j { s with heap := h', toks := t } := by
  obtain ⟨⟨o, nm, qn, ho, r⟩, ⟨mc, c1, c2⟩, gs, e, go⟩ := R
  exact ⟨⟨o, nm, qn, k a (List.mem_cons_self ..) o ho, r⟩, ⟨mc, c1.at' fun o e => k cStatics (List.mem_cons_of_mem _ (List.mem_cons_of_mem _ hcs)) o e, c2⟩, gs, e, fun z hz => go z fun b hb o e => hz b hb o (k b (List.mem_cons_of_mem _ hb) o e)⟩
/-- where it stands: its own address, the frame's, what it goes over -/
structure Apart (A : Around) (a C : Addr) (fp wr : List Addr) : Prop where
  calm : A.handled = none
  aC : a ≠ C
  af : a ∉ fp
  sub : ∀ b ∈ wr, b ∈ fp
  room : A.depth < recursionLimit
  cs : cStatics ∈ fp
  csC : cStatics ≠ C
  csw : cStatics ∉ wr
theorem Ready.next (R : Ready P w A a g C fp wr pz n B j s) (T : Apart A a C fp wr) (hj : j < (passing pz n 0).length) {Q : Option Value → Shared → Prop} {E : Value → Shared → Prop}
    (q : ∀ v s' i news, (passing pz n 0)[j]? = some i → B i v news → (news.map Prod.fst).Nodup → (∀ p ∈ news, p.1 ≠ C ∧ p.1 ∉ wr ∧ s.heap.get? p.1 = none ∧ s'.heap.get? p.1 = some p.2) → Ready P w A a g C fp wr pz n B (j + 1) s' → Moved (C :: wr) (GenOnlyQ g) s s' → Q (some v) s') :
    wpAny (model P w) A (pyNext (.ref a)) Q E s := by
  obtain ⟨isg, lim, gs, e, go⟩ := R
  obtain ⟨m, hm⟩ : ∃ m, (passing pz n 0).length - j = m + 1 := ⟨(passing pz n 0).length - j - 1, by omega⟩
  rw [hm] at go
  have aw : a ∉ wr := fun z => T.af (T.sub a z)
  refine wpAny_with_toks (Nat.le_refl s.toks) (wpAny_pyNext_genexpQ (P := fun k s0 s1 => k = 0 ∧ GenSince C wr s0 s1) T.calm lim T.room isg e (go _ fun _ _ _ z => z) (fun v s1 gs' bare hv => ?_) (fun s1 z _ _ => absurd z.1 (Nat.succ_ne_zero m)))
  obtain ⟨⟨i, news, at_, hB, nd, hn⟩, ⟨h1, t1, rfl, k1⟩, back⟩ := hv
  rw [show (passing pz n 0).length - 1 - (m + 1 - 1) = j by omega] at at_
  intro tk
  have mv : Moved (C :: wr) (GenOnlyQ g) s (({ s.setGen g .running with heap := h1, toks := t1 } : Shared).setGen g gs') :=
    ⟨fun b o hb z => k1 b o (fun y => hb (y ▸ List.mem_cons_self ..)) (fun y => hb (List.mem_cons_of_mem _ y)) z, GenOnlyQ.of ((GenOnly.setGen s g .running).trans (GenOnly.setGen _ g gs')) (setGen_self (gs := .running) (setGen_self e)) bare, rfl, rfl, tk⟩
  refine q v _ i news at_ hB nd hn ⟨?_, ?_, gs', setGen_self (gs := .running) (setGen_self e), fun z hz => ?_⟩ mv
  · obtain ⟨o, nm, qn, ho, r⟩ := isg
    exact ⟨o, nm, qn, k1 a o T.aC aw ho, r⟩
  · obtain ⟨mc, c1, c2⟩ := lim
    exact ⟨mc, c1.at' fun o z => k1 cStatics o T.csC T.csw z, c2⟩
  · rw [show (passing pz n 0).length - (j + 1) = m by omega]
    exact back z hz
theorem Ready.done (R : Ready P w A a g C fp wr pz n B j s) (T : Apart A a C fp wr) (hj : j = (passing pz n 0).length) {Q : Option Value → Shared → Prop} {E : Value → Shared → Prop} (q : ∀ s', Moved (C :: wr) (GenOnlyQ g) s s' → Q none s') :
    wpAny (model P w) A (pyNext (.ref a)) Q E s := by
  obtain ⟨isg, lim, gs, e, go⟩ := R
  rw [hj, Nat.sub_self] at go
  refine wpAny_with_toks (Nat.le_refl s.toks) (wpAny_pyNext_genexpQ (P := fun k s0 s1 => k = 0 ∧ GenSince C wr s0 s1) T.calm lim T.room isg e (go _ fun _ _ _ z => z) (fun v s1 gs' _ hv => ?_) (fun s1 hp h' k => ?_))
  · obtain ⟨_, _, back⟩ := hv
    exact (back s1 fun _ _ _ z => z).elim
  · obtain ⟨_, h1, t1, rfl, k1⟩ := hp
    intro tk
    exact q _ ⟨fun b o hb z => k b o (k1 b o (fun y => hb (y ▸ List.mem_cons_self ..)) (fun y => hb (List.mem_cons_of_mem _ y)) z), GenOnlyQ.of ((GenOnly.setGen s g .running).trans (GenOnly.setGen _ g .finished)) (setGen_self (gs := .running) (setGen_self e)) rfl, rfl, rfl, tk⟩
/-- what has been brought so far: the values, and for each the objects made for it, none of which was there at first -/
structure Sofar (pz : Nat → Bool) (n : Nat) (B : Bring) (wr : List Addr) (h0 : Heap) (j : Nat) (acc : Array Value) (nss : List (List (Addr × Obj))) (s : Shared) : Prop where
  size : acc.size = j
  len : nss.length = j
  each : ∀ (k : Nat) v news, acc[k]? = some v → nss[k]? = some news → ∃ i, (passing pz n 0)[k]? = some i ∧ B i v news
  nd : (nss.flatten.map Prod.fst).Nodup
  there : ∀ p ∈ nss.flatten, p.1 ∉ wr ∧ h0.get? p.1 = none ∧ s.heap.get? p.1 = some p.2
theorem Sofar.more {h0 : Heap} {acc : Array Value} {nss : List (List (Addr × Obj))} {v : Value} {i : Nat} {news : List (Addr × Obj)} {s' : Shared} (F : Sofar pz n B wr h0 j acc nss s) (hi : (passing pz n 0)[j]? = some i) (hB : B i v news) (nd : (news.map Prod.fst).Nodup)
    (old : ∀ b o, b ∉ wr → s.heap.get? b = some o → s'.heap.get? b = some o) (fr : ∀ p ∈ news, p.1 ∉ wr ∧ h0.get? p.1 = none ∧ s.heap.get? p.1 = none ∧ s'.heap.get? p.1 = some p.2) : Sofar pz n B wr h0 (j + 1) (acc.push v) (nss ++ [news]) s' := by
  refine ⟨by rw [Array.size_push, F.size], by rw [List.length_append, List.length_singleton, F.len], fun k u ns h1 h2 => ?_, ?_, fun p hp => ?_⟩
  · rw [Array.getElem?_push, F.size] at h1
    by_cases e : k = j
    · subst e
      rw [if_pos rfl] at h1
      rw [List.getElem?_append_right (by rw [F.len]; exact Nat.le_refl _), F.len, Nat.sub_self] at h2
      cases h1
      cases h2
      exact ⟨i, hi, hB⟩
    · rw [if_neg e] at h1
      have lt : k < j := by rw [← F.size]; exact (Array.getElem?_eq_some_iff.mp h1).1
      rw [List.getElem?_append_left (by rw [F.len]; exact lt)] at h2
      exact F.each k u ns h1 h2
  · rw [List.flatten_append, List.map_append, List.flatten_singleton]
    refine List.nodup_append.mpr ⟨F.nd, nd, fun b hb c hc z => ?_⟩
    obtain ⟨p, hp, e1⟩ := List.mem_map.mp hb
    obtain ⟨r, hr, e2⟩ := List.mem_map.mp hc
    have y1 := (F.there p hp).2.2
    have y2 := (fr r hr).2.2.1
    rw [e1, z, ← e2, y2] at y1
    cases y1
  · rw [List.flatten_append, List.flatten_singleton] at hp
    rcases List.mem_append.mp hp with z | z
    · obtain ⟨z1, z2, z3⟩ := F.there p z
      exact ⟨z1, z2, old _ _ z1 z3⟩
    · obtain ⟨z1, z2, _, z3⟩ := fr p z
      exact ⟨z1, z2, z3⟩
end
/-! ### tuple(..) of such an expression -/
abbrev listO (acc : Array Value) (c : Nat) : Obj := { cls := .type "list", dict := none, data := .seq acc c, slots := #[] }
section
variable {P : Program} {w : World} {D : Around} {a C S : Addr} {g : Nat} {fp wr : List Addr} {pz : Nat → Bool} {n : Nat} {B : Bring} {h0 : Heap} {R : Result → Shared → Prop}
theorem bring_extend (T : Apart D.in1.in1 a C fp wr) (few : (passing pz n 0).length ≤ sizeLine) (Sa : S ≠ a) (SC : S ≠ C) (Sf : S ∉ fp) (res : Value) (k : Nat) : ∀ (j : Nat) (s : Shared) (acc : Array Value) (c : Nat) (nss : List (List (Addr × Obj))),
    (passing pz n 0).length - j = k → j ≤ (passing pz n 0).length → Ready P w D.in1.in1 a g C fp wr pz n B j s → s.heap.get? S = some (listO acc c) → Sofar pz n B (S :: C :: wr) h0 j acc nss s → (∀ b o, b ∉ S :: C :: wr → h0.get? b = some o → s.heap.get? b = some o) →
    (∀ s' acc' c' nss', Moved (S :: C :: wr) (GenOnlyQ g) s s' → s'.heap.get? S = some (listO acc' c') → Sofar pz n B (S :: C :: wr) h0 (passing pz n 0).length acc' nss' s' → R (.ok (.ret res)) s') →
      codeAny (model P w) D (.builtin "list.extend.loop" ⟨[.ref S, .ref a, res], []⟩) R s := by
  have Sw : S ∉ C :: wr := fun z => (List.mem_cons.mp z).elim SC fun y => Sf (T.sub _ y)
  have wider : ∀ b ∈ C :: wr, b ∈ S :: C :: wr := fun b hb => List.mem_cons_of_mem _ hb
  have gt : ∀ x y z, GenOnlyQ g x y → GenOnlyQ g y z → GenOnlyQ g x z := fun _ _ _ x y => x.trans y
  induction k with
  | zero =>
    intro j s acc c nss e le rd hS F old q
    have ej : j = (passing pz n 0).length := by omega
    refine codeAny_builtin PySem.F.entry_extend_loop ?_
    rw [Around.under_plainId PySem.F.plain_extend_loop _]
    refine (?_ : wpAny _ D.in1 (pyNext (.ref a) >>= _) _ _ s)
    refine wpAny_bind (wpAny_of_in1 (rd.done T ej fun s' mv => wpAny_pure (q s' acc c nss (mv.mono wider) (mv.heap S _ Sw hS) ?_)))
    rw [← ej]
    exact ⟨F.size, F.len, F.each, F.nd, fun p hp => let ⟨z1, z2, z3⟩ := F.there p hp; ⟨z1, z2, mv.heap _ _ (fun y => z1 (wider _ y)) z3⟩⟩
  | succ k ih =>
    intro j s acc c nss e le rd hS F old q
    refine codeAny_builtin PySem.F.entry_extend_loop ?_
    rw [Around.under_plainId PySem.F.plain_extend_loop _]
    refine (?_ : wpAny _ D.in1 (pyNext (.ref a) >>= _) _ _ s)
    refine wpAny_bind (wpAny_of_in1 (rd.next T (by omega) fun v s' i news hi hB nd hn rd' mv => ?_))
    have hS' := mv.heap S _ Sw hS
    refine (?_ : wpAny _ D.in1 (updateSeq S (·.push v) >>= _) _ _ s')
    have other : ∀ b o, b ≠ S → s'.heap.get? b = some o → (s'.heap.update S (Obj.mapSeq (·.push v))).get? b = some o := fun b o hb z => (Heap.get?_update_other _ _ (Ne.symm hb)).trans z
    have far : ∀ p ∈ news, p.1 ≠ S := fun p hp z => by
      have y := (hn p hp).2.2.1
      rw [z, hS] at y
      cases y
    have out : ∀ p ∈ news, p.1 ∉ S :: C :: wr := fun p hp z => by
      rcases List.mem_cons.mp z with y | y
      · exact far p hp y
      · rcases List.mem_cons.mp y with y | y
        · exact (hn p hp).1 y
        · exact (hn p hp).2.1 y
    have up : ∀ b o, b ∉ S :: C :: wr → s.heap.get? b = some o → (s'.heap.update S (Obj.mapSeq (·.push v))).get? b = some o := fun b o hb z => other b o (fun y => hb (y ▸ List.mem_cons_self ..)) (mv.heap b o (fun y => hb (List.mem_cons_of_mem _ y)) z)
    have F' : Sofar pz n B (S :: C :: wr) h0 (j + 1) (acc.push v) (nss ++ [news]) { s' with heap := s'.heap.update S (Obj.mapSeq (·.push v)) } := F.more hi hB nd up fun p hp => by
      refine ⟨out p hp, ?_, (hn p hp).2.2.1, other _ _ (far p hp) (hn p hp).2.2.2⟩
      cases z : h0.get? p.1 with
      | none => rfl
      | some o =>
        have y := old _ _ (out p hp) z
        rw [(hn p hp).2.2.1] at y
        cases y
    have rd2 : Ready P w D.in1.in1 a g C fp wr pz n B (j + 1) { s' with heap := s'.heap.update S (Obj.mapSeq (·.push v)) } := rd'.keep (t := s'.toks) T.cs fun b hb o z => other b o (fun y => by
      rcases List.mem_cons.mp hb with x | x
      · exact Sa (y ▸ x)
      · rcases List.mem_cons.mp x with x | x
        · exact SC (y ▸ x)
        · exact Sf (y ▸ x)) z
    refine wpAny_bind (wpAny_updateSeq hS' rfl (wpAny_pure ⟨plainId_quiet PySem.F.plain_extend_loop _, ih (j + 1) _ (acc.push v) _ (nss ++ [news]) (by omega) (by omega) rd2 (Heap.get?_update_self _ hS' rfl) F' (fun b o hb z => up b o hb (old b o hb z)) fun s2 acc2 c2 nss2 mv2 hS2 F2 => ?_⟩) (by rw [F.size]; omega) (by show (acc.push v).size ≤ sizeLine + 1; rw [Array.size_push, F.size]; omega))
    exact q s2 acc2 c2 nss2 (Moved.trans gt ((mv.mono wider).then_heap (by first | exact Nat.le_refl _ | exact Nat.le_succ _ | omega) fun b o hb z => other b o (fun y => hb (y ▸ List.mem_cons_self ..)) z) mv2) hS2 F2
end
section
variable {P : Program} {w : World} {A : Around} {E : Value → Shared → Prop} {s : Shared} {a C : Addr} {g : Nat} {fp wr : List Addr} {pz : Nat → Bool} {n : Nat} {B : Bring}
theorem bring_collect {Q : List Value → Shared → Prop} (T : Apart A.in1.in1 a C fp wr) (rd : Ready P w A.in1.in1 a g C fp wr pz n B 0 s) (few : (passing pz n 0).length ≤ sizeLine) (al : a < s.heap.objs.size) (Cl : C < s.heap.objs.size) (fl : ∀ b ∈ fp, b < s.heap.objs.size)
    (q : ∀ s' acc nss, Moved (C :: wr) (GenOnlyQ g) s s' → Sofar pz n B (C :: wr) s.heap (passing pz n 0).length acc nss s' → Q acc.toList s') : wpAny (model P w) A (collect (.ref a)) Q E s := by
  have gt : ∀ x y z, GenOnlyQ g x y → GenOnlyQ g y z → GenOnlyQ g x z := fun _ _ _ x y => x.trans y
  have isG : ∀ z : Shared, z.heap.IsGen a g → z.TypeIs (.ref a) "generator" := fun z h => h.typeIs
  have Sf : s.heap.objs.size ∉ fp := fun z => Nat.lt_irrefl _ (fl _ z)
  have Sa : s.heap.objs.size ≠ a := fun z => Nat.lt_irrefl _ (z ▸ al)
  have SC : s.heap.objs.size ≠ C := fun z => Nat.lt_irrefl _ (z ▸ Cl)
  have gen0 := rd.1
  have rd1 : Ready P w A.in1.in1 a g C fp wr pz n B 0 { s with heap := s.heap.push { cls := .type "list", data := .seq ([] : List Value).toArray } } := rd.keep (t := s.toks) T.cs fun b _ o z => Heap.get?_push_of_some _ z
  unfold collect
  refine wpAny_bind (wpAny_runValue (codeAny_builtin PySem.F.entry_proto_collect ?_))
  rw [Around.under_plainId PySem.F.plain_proto_collect _]
  refine (?_ : wpAny _ A.in1 (newList [] >>= fun l => again (.builtin "list.__iadd__" ⟨[l, .ref a], []⟩)) _ _ s)
  refine wpAny_bind (wpAny_newObj_type (wpAny_pure ⟨plainId_quiet PySem.F.plain_list_iadd _, codeAny_builtin PySem.F.entry_list_iadd ?_⟩))
  rw [Around.under_plainId PySem.F.plain_list_iadd _]
  refine (?_ : wpAny _ A.in1 (Builtin.List.listExtendWith (.ref s.heap.objs.size) (.ref a) (.ref s.heap.objs.size)) _ _ _)
  unfold Builtin.List.listExtendWith
  refine wpAny_bind (wpAny_typeOf (isG _ rd1.1) ?_)
  simp only [show Builtin.List.listSameRef (.ref s.heap.objs.size) (.ref a) = false by simp [Builtin.List.listSameRef, Sa], show (Value.type "generator" == Value.type "list") = false by decide, show (Value.type "generator" == Value.type "tuple") = false by decide, Bool.or_false, Bool.false_eq_true, if_false]
  refine wpAny_bind (wpAny_pyIter_gen rd1.1 (wpAny_bind (wpAny_holding ?_)))
  unfold Builtin.List.listLengthHint
  refine wpAny_bind (wpAny_specialOf (isG _ rd1.1) PySem.F.gen_no_len ?_)
  refine (?_ : wpAny _ A.in1 (specialOf (Value.ref a) (Str.ofString "__length_hint__") >>= _) _ _ _)
  refine wpAny_bind (wpAny_specialOf (isG _ rd1.1) PySem.F.gen_no_hint (wpAny_pure ?_))
  refine (?_ : wpAny _ A.in1 (rule "list.extend.makes-room" >>= fun _ => Builtin.List.listTouch (.ref s.heap.objs.size) >>= fun _ => again (.builtin "list.extend.loop" ⟨[.ref s.heap.objs.size, .ref a, .ref s.heap.objs.size], []⟩)) _ _ _)
  have L1 : (s.heap.push { cls := .type "list", data := .seq ([] : List Value).toArray }).get? s.heap.objs.size = some { cls := .type "list", data := .seq ([] : List Value).toArray } := Heap.get?_push_size _ rfl
  refine wpAny_bind (wpAny_rule (wpAny_bind ?_))
  refine (?_ : wpAny _ A.in1 (updateSeq s.heap.objs.size (·.push .none) >>= fun _ => updateSeq s.heap.objs.size (·.pop)) _ _ _)
  refine wpAny_bind (wpAny_updateSeq L1 rfl ?_)
  have L2' := Heap.get?_update_self (Obj.mapSeq (·.push Value.none)) L1 rfl
  refine wpAny_updateSeq L2' rfl ?_
  have L3 := Heap.get?_update_self (Obj.mapSeq (·.pop)) L2' rfl
  have oth : ∀ b o, b ≠ s.heap.objs.size → (s.heap.push { cls := .type "list", data := .seq ([] : List Value).toArray }).get? b = some o →
      (((s.heap.push { cls := .type "list", data := .seq ([] : List Value).toArray }).update s.heap.objs.size (Obj.mapSeq (·.push Value.none))).update s.heap.objs.size (Obj.mapSeq (·.pop))).get? b = some o :=
    fun b o hb z => (Heap.get?_update_other _ _ (Ne.symm hb)).trans ((Heap.get?_update_other _ _ (Ne.symm hb)).trans z)
  have old0 : ∀ b o, s.heap.get? b = some o → (((s.heap.push { cls := .type "list", data := .seq ([] : List Value).toArray }).update s.heap.objs.size (Obj.mapSeq (·.push Value.none))).update s.heap.objs.size (Obj.mapSeq (·.pop))).get? b = some o :=
    fun b o z => oth b o (fun y => Nat.lt_irrefl _ (y ▸ Heap.lt_size z)) (Heap.get?_push_of_some _ z)
  refine wpAny_pure ⟨plainId_quiet PySem.F.plain_extend_loop _, bring_extend T few Sa SC Sf _ _ 0 _ _ _ [] rfl (Nat.zero_le _)
    (rd1.keep (t := s.toks) T.cs fun b hb o z => oth b o (fun y => ?_) z) L3 ⟨rfl, rfl, fun k v ns h _ => by simp at h, List.nodup_nil, fun p hp => (List.not_mem_nil hp).elim⟩ (fun b o _ z => old0 b o z) fun s' acc c nss mv hS F => ?_⟩
  · rcases List.mem_cons.mp hb with x | x
    · exact Sa (y.symm.trans x)
    · rcases List.mem_cons.mp x with x | x
      · exact SC (y.symm.trans x)
      · exact Sf (y ▸ x)
  · refine (?_ : wpAny _ A (load s.heap.objs.size >>= _) _ _ s')
    refine wpAny_bind (wpAny_load hS (wpAny_pure (q s' acc nss ?_ ⟨F.size, F.len, F.each, F.nd, fun p hp => let ⟨z1, z2, z3⟩ := F.there p hp; ⟨fun y => z1 (List.mem_cons_of_mem _ y), z2, z3⟩⟩)))
    exact Moved.drop_new (o := { cls := .type "list", data := .seq ([] : List Value).toArray }) (tk := s.toks) (Moved.trans gt ((Moved.refl fun _ => .inl rfl).then_heap (by first | exact Nat.le_refl _ | exact Nat.le_succ _ | omega) fun b o hb z => oth b o (fun y => hb (y ▸ List.mem_cons_self)) z) mv) (Nat.le_refl _)
theorem bring_new {Q : Value → Shared → Prop} (T : Apart A.in1.in1.in1 a C fp wr) (rd : Ready P w A.in1.in1.in1 a g C fp wr pz n B 0 s) (few : (passing pz n 0).length ≤ sizeLine) (al : a < s.heap.objs.size) (Cl : C < s.heap.objs.size) (fl : ∀ b ∈ fp, b < s.heap.objs.size)
    (q : ∀ s' acc nss, Moved (C :: wr) (GenOnlyQ g) s s' → Sofar pz n B (C :: wr) s.heap (passing pz n 0).length acc nss s' → Q (.ref s'.heap.objs.size) { s' with heap := s'.heap.push { cls := .type "tuple", data := .seq acc } }) :
    codeAny (model P w) A (.call (.builtin "tuple.__new__") ⟨[.type "tuple", .ref a], []⟩) (wants Q E) s := by
  refine codeAny_of_tree ?_
  refine (?_ : wpAny _ A.in1 (do checkBuiltinCall "tuple.__new__" ⟨[.type "tuple", .ref a], []⟩; again (.builtin "tuple.__new__" ⟨[.type "tuple", .ref a], []⟩)) _ _ s)
  refine wpAny_bind (wpAny_of_eq (PySem.F.newCall_tuple_1 _) (wpAny_pure ⟨plainId_quiet PySem.F.plain_tuple_new _, codeAny_builtin PySem.F.entry_tuple_new ?_⟩))
  rw [Around.under_plainId PySem.F.plain_tuple_new _]
  have ⟨k1, k2, k3, k4⟩ := And.intro sub_tuple_self (And.intro init_tuple_lookup (And.intro madeHere_tuple rd.1.typeIs))
  wp_walk using wpAny_typeOf k4, bring_collect T rd few al Cl fl
  intro s' acc nss mv F
  refine (?_ : wpAny _ A.in1 (Builtin.Tuple.tupleExact acc.toList.toArray >>= fun v => ret v) _ _ _)
  unfold Builtin.Tuple.tupleExact
  have sz : acc.toList.toArray.size ≤ sizeLine := by simp only [Array.toArray_toList]; rw [F.size]; exact few
  refine wpAny_bind (wpAny_newObj_type (wpAny_pure ?_) sz)
  rw [show acc.toList.toArray = acc by simp]
  exact q s' acc nss mv F
theorem bring_tuple {Q : Value → Shared → Prop} (T : Apart A.in1.in1.in1.in1 a C fp wr) (rd : Ready P w A.in1.in1.in1.in1 a g C fp wr pz n B 0 s) (few : (passing pz n 0).length ≤ sizeLine) (al : a < s.heap.objs.size) (Cl : C < s.heap.objs.size) (fl : ∀ b ∈ fp, b < s.heap.objs.size)
    (q : ∀ s' acc nss, Moved (C :: wr) (GenOnlyQ g) s s' → Sofar pz n B (C :: wr) s.heap (passing pz n 0).length acc nss s' → Q (.ref s'.heap.objs.size) { s' with heap := s'.heap.push { cls := .type "tuple", data := .seq acc } }) :
    wpAny (model P w) A (call (.type "tuple") [.ref a]) Q E s := by
  refine callType_codes (Q₁ := fun obj s1 => s1.TypeIs obj "tuple" ∧ Q obj s1) PySem.F.called_tuple (PySem.F.typeCall_tuple_1 _) PySem.F.entry_object_init (bring_new T rd few al Cl fl fun s' acc nss mv F => ⟨⟨_, Heap.get?_push_size _ rfl, rfl⟩, q s' acc nss mv F⟩) fun obj s1 z => ⟨z.1, PySem.F.args_object_init_2 obj _, ?_⟩
  exact object_init_meets PySem.F.called_tuple.init.lookup PySem.F.called_tuple.made (by decide) P w A.in1 _ s1 ⟨z.1, rfl, z.2⟩
end
/-! ### such an expression over a tuple or a range, in a def's body: tuple(.. for x in ..) told as data -/
section
variable {P : Program} {w : World} {A : Around} {elt iter : Expr} {x : Str} {px pos : Pos} {ifs : List Expr} {scope : Scope} {I a : Addr} {g : Nat} {fp wr : List Addr} {n : Nat} {It : Nat → Value → Prop} {St : Nat → Heap → Prop} {env : Env} {pz : Nat → Bool} {B : Bring}
theorem Ready.fresh {s : Shared} {m : Str → Option Value} (calm : A.handled = none) (W : ∀ A' : Around, A'.handled = none → Walks P w A' I fp wr n It St) (live : ∀ i h, St i h → ∀ b ∈ wr, ∃ o, h.get? b = some o) (hx : env.kindOf x = some .local)
    (hk : (env.scope.kind == .class || (env.scope.kind == .module && env.locals != env.globals)) = false) (co : env.scope.isCoroutine = false) (out : env.locals ∉ fp) (M : Makes P w env x ifs elt fp wr It pz B s.heap) (isg : s.heap.IsGen a g)
    (hg : s.gens[g]? = some (.fresh (.compStart (.GeneratorExp elt [⟨.Name x px, iter, ifs, 0⟩] scope pos) 0 (.ref I) .none env))) (st : St 0 s.heap) (ns : s.heap.Ns env.locals m) (lim : s.heap.NoLimit) : Ready P w A a g env.locals fp wr pz n B 0 s := by
  refine ⟨isg, lim, _, hg, fun z hz => ⟨rfl, ?_⟩⟩
  have st' : St 0 z.heap := (W A calm).frame _ _ _ st fun b hb o e => hz b (List.mem_cons_of_mem _ hb) o e
  have ns' := ns.at' fun o e => hz _ (List.mem_cons_self ..) o e
  have calm2 : (A.in1.over (.compStart (.GeneratorExp elt [⟨.Name x px, iter, ifs, 0⟩] scope pos) 0 (.ref I) .none env) []).handled = none := calm
  have lp := bring_loop (iter := iter) (px := px) (scope := scope) (pos := pos) (A := A.in1) calm W live hx hk co out M n 0 z z m (Nat.sub_zero _) (Nat.zero_le _) st' ns' (GenSince.refl _ _ _) fun b hb _ o e => hz b (List.mem_cons_of_mem _ hb) o e
  refine (?_ : Seg _ A.in1 _ _ _ z _ ((compStart (.GeneratorExp elt [⟨.Name x px, iter, ifs, 0⟩] scope pos) 0 (.ref I) .none env).onRaise (leaving env)) [] z)
  unfold compStart
  rw [Sem.onRaise_eq_wrap]
  refine (?_ : Seg _ A.in1 _ _ _ z _ ((ask >>= _).wrap _ _ _ _) [] z)
  refine seg_bind_wrap (wpAny_askSetting ?_)
  split
  · exact seg_again rfl lp
  · first
      | exact seg_bind_wrap (wpAny_rule (seg_bind_wrap (wpAny_standAt (seg_bind_wrap ((W _ calm2).self 0 z _ _ st' (seg_again rfl lp))))))
      | (refine seg_bind_wrap (wpAny_rule ?_); refine (?_ : Seg _ A.in1 _ _ _ z _ ((standAt iter.pos >>= _).wrap _ _ _ _) [] z); exact seg_bind_wrap (wpAny_standAt (seg_bind_wrap ((W _ calm2).self 0 z _ _ st' (seg_again rfl lp)))))
end
/-- the heap with these tuples -/
def tupsAt : List (Addr × List V) → Hp → Hp
  | [], H => H
  | p :: L, H => upd (tupsAt L H) p.1 (.tup p.2)
theorem tupsAt_out {b : Addr} {H : Hp} : ∀ {L : List (Addr × List V)}, b ∉ L.map Prod.fst → tupsAt L H b = H b
  | [], _ => rfl
  | p :: L, h => by
    rw [List.map_cons, List.mem_cons, not_or] at h
    exact (upd_ne h.1).trans (tupsAt_out h.2)
theorem tupsAt_in {H : Hp} : ∀ {L : List (Addr × List V)}, (L.map Prod.fst).Nodup → ∀ p ∈ L, tupsAt L H p.1 = some (.tup p.2)
  | [], _, p, h => (List.not_mem_nil h).elim
  | r :: L, nd, p, h => by
    rw [List.map_cons, List.nodup_cons] at nd
    rcases List.mem_cons.mp h with e | e
    · rw [e]; exact upd_same
    · have ne : p.1 ≠ r.1 := fun z => nd.1 (z ▸ List.mem_map_of_mem e)
      exact (upd_ne ne).trans (tupsAt_in nd.2 p e)
theorem tupsAt_cases {b : Addr} {H : Hp} : ∀ {L : List (Addr × List V)}, b ∈ L.map Prod.fst → ∃ xs, (b, xs) ∈ L ∧ tupsAt L H b = some (.tup xs)
  | [], h => (List.not_mem_nil h).elim
  | p :: L, h => by
    by_cases e : b = p.1
    · exact ⟨p.2, by rw [e]; exact List.mem_cons_self, by rw [e]; exact upd_same⟩
    · obtain ⟨xs, h1, h2⟩ := tupsAt_cases (H := H) ((List.mem_cons.mp h).resolve_left e)
      exact ⟨xs, List.mem_cons_of_mem _ h1, (upd_ne e).trans h2⟩
section
variable {X : Cx} {pins : List (Addr × Obj)} {σ : L2.St} {H G : Hp} {s s' : Shared} {L : List (Addr × List V)}
theorem Inv.more (I : Inv X pins σ H s) (J : Inv X pins σ G s') (new : ∀ b ∈ L.map Prod.fst, s.heap.get? b = none ∧ G b = none) (ok : ∀ p ∈ L, p.2.length ≤ sizeLine ∧ ∃ its : List Value, Vals p.2 its ∧ IsTup s'.heap p.1 its.toArray) : Inv X pins σ (tupsAt L G) s' := by
  have old : ∀ {b o}, s.heap.get? b = some o → b ∉ L.map Prod.fst := fun e z => by rw [(new _ z).1] at e; cases e
  have held : ∀ {b o}, G b = some o → b ∉ L.map Prod.fst := fun e z => by rw [(new _ z).2] at e; cases e
  refine { J with base := ⟨J.base.keep, J.base.slot, fun b o e n hx => ?_, J.base.there, fun b xs e => ?_, fun b o u e => ?_, fun b ps e => ?_⟩, free := ?_, freeC := fun y c e => ?_, pin := fun p hp => ?_, hok := fun b o e => ?_ }
  · obtain ⟨o', e'⟩ := I.base.there b o e hx
    rw [tupsAt_out (old e')]
    exact J.base.free b o e n hx
  · have q := J.base.tups b xs e
    rw [tupsAt_out (held q)]; exact q
  · have q := J.base.frzs b o u e
    rw [tupsAt_out (held q)]; exact q
  · obtain ⟨mo, q⟩ := J.base.tbls b ps e
    exact ⟨mo, by rw [tupsAt_out (held q)]; exact q⟩
  · obtain ⟨m, ⟨ob, es, ep, ho, _⟩, _⟩ := I.loc
    rw [tupsAt_out (old ho)]
    exact J.free
  · obtain ⟨v, ob, ho, _⟩ := I.cell y c e
    rw [tupsAt_out (old ho)]
    exact J.freeC y c e
  · obtain ⟨q1, q2, q3⟩ := J.pin p hp
    exact ⟨q1, by rw [tupsAt_out (old (I.pin p hp).1)]; exact q2, q3⟩
  · by_cases hb : b ∈ L.map Prod.fst
    · obtain ⟨xs, h1, h2⟩ := tupsAt_cases (H := G) hb
      rw [h2] at e
      cases e
      exact ok _ h1
    · rw [tupsAt_out hb] at e
      exact (J.hok b o e).stay (fun _ _ _ q => q) (fun c q => by rw [tupsAt_out (held q)]; exact q) fun c xs q => by rw [tupsAt_out (held q)]; exact q
end
theorem dpAll_of_get {K : PySem.W.Frag} {H : Hp} : ∀ {vs : List V} {ds : List PyData}, vs.length = ds.length → (∀ (k : Nat) v d, vs[k]? = some v → ds[k]? = some d → Dp K H v d) → DpAll K H vs ds
  | [], [], _, _ => .nil
  | [], _ :: _, h, _ => by simp at h
  | _ :: _, [], h, _ => by simp at h
  | v :: vs, d :: ds, h, q => .cons (q 0 v d rfl rfl) (dpAll_of_get (by simpa using h) fun k u e h1 h2 => q (k + 1) u e h1 h2)
/-- one new tuple, told as an object of the model and as what is tracked -/
def TupNew (p : Addr × List V) (r : Addr × Obj) : Prop := r.1 = p.1 ∧ p.2.length ≤ sizeLine ∧ ∃ us : List Value, Vals p.2 us ∧ r.2.cls = .type "tuple" ∧ ∃ n, r.2.data = .seq us.toArray n
/-- a place's item is a new tuple that is such data -/
def BringD (K : PySem.W.Frag) (f : Nat → PyData) (H1 : Hp) : Bring := fun i y news => ∃ (q : Addr) (L : List (Addr × List V)), y = .ref q ∧ Paired TupNew L news ∧ ∀ H2 : Hp, Grow H1 H2 → (∀ p ∈ L, H2 p.1 = some (.tup p.2)) → Dp K H2 (.ref q) (f i)
theorem paired_fst {L : List (Addr × List V)} {news : List (Addr × Obj)} (h : Paired TupNew L news) : L.map Prod.fst = news.map Prod.fst := by
  induction h with
  | nil => rfl
  | cons a _ ih => rw [List.map_cons, List.map_cons, ih, a.1]
theorem paired_mem {L : List (Addr × List V)} {news : List (Addr × Obj)} (h : Paired TupNew L news) : ∀ p ∈ L, ∃ r ∈ news, TupNew p r := by
  induction h with
  | nil => exact fun p z => (List.not_mem_nil z).elim
  | cons a _ ih => exact fun p z => (List.mem_cons.mp z).elim (fun e => ⟨_, List.mem_cons_self, e ▸ a⟩) fun e => let ⟨r, h1, h2⟩ := ih p e; ⟨r, List.mem_cons_of_mem _ h1, h2⟩
theorem paired_app {L L' : List (Addr × List V)} {m m' : List (Addr × Obj)} (h : Paired TupNew L m) (h' : Paired TupNew L' m') : Paired TupNew (L ++ L') (m ++ m') := by
  induction h with
  | nil => exact h'
  | cons a _ ih => exact .cons a ih
/-- all that was brought, as what is to be tracked -/
theorem bring_all {K : PySem.W.Frag} {f : Nat → PyData} {H1 : Hp} : ∀ (acc : List Value) (nss : List (List (Addr × Obj))) (ix : List Nat), acc.length = ix.length → nss.length = ix.length → (∀ (k : Nat) v news, acc[k]? = some v → nss[k]? = some news → ∃ i, ix[k]? = some i ∧ BringD K f H1 i v news) →
    ∃ (vs : List V) (L : List (Addr × List V)), Vals vs acc ∧ Paired TupNew L nss.flatten ∧ ∀ H2 : Hp, Grow H1 H2 → (∀ p ∈ L, H2 p.1 = some (.tup p.2)) → DpAll K H2 vs (ix.map f)
  | [], [], [], _, _, _ => ⟨[], [], .nil, .nil, fun _ _ _ => .nil⟩
  | v :: acc, ns :: nss, i :: ix, h1, h2, h => by
    obtain ⟨vs, L, r1, r2, r3⟩ := bring_all acc nss ix (by simpa using h1) (by simpa using h2) fun k u m e1 e2 => h (k + 1) u m e1 e2
    obtain ⟨i', e, q, L0, rfl, r4, r5⟩ := h 0 v ns rfl rfl
    cases e
    refine ⟨.ref q :: vs, L0 ++ L, .cons rfl r1, ?_, fun H2 g hp => .cons (r5 H2 g fun p z => hp p (List.mem_append_left _ z)) (r3 H2 g fun p z => hp p (List.mem_append_right _ z))⟩
    rw [List.flatten_cons]
    exact paired_app r4 r2
  | [], _ :: _, [], _, h2, _ => by simp at h2
  | _ :: _, _, [], h1, _, _ => by simp at h1
  | [], _, _ :: _, h1, _, _ => by simp at h1
  | _ :: _, [], _ :: _, _, h2, _ => by simp at h2
/-! ### the rule -/
def OverOk (X : Cx) (u : Value) (s1 : Shared) (n : Nat) (It : Nat → Value → Prop) (T : Addr) : Prop :=
  ∃ (ob : Obj) (fp0 : List Addr) (St : Nat → Heap → Prop), (∀ (Q : Value → Shared → Prop) (E : Value → Shared → Prop), Q (.ref s1.heap.objs.size) { s1 with heap := s1.heap.push ob } → wpAny (model X.prog X.w) X.A (pyIter u) Q E s1) ∧
    (∀ A' : Around, A'.handled = none → Walks X.prog X.w A' s1.heap.objs.size fp0 [s1.heap.objs.size] n It St) ∧ (∀ b ∈ fp0, b ≤ s1.heap.objs.size) ∧
    (∀ h' : Heap, (∀ b o, b ≠ T → (s1.heap.push ob).get? b = some o → h'.get? b = some o) → St 0 h') ∧ ∀ i h, St i h → ∃ o, h.get? s1.heap.objs.size = some o
/-- the tests and the element, wherever the expression's own frame stands -/
def MakeOk (X : Cx) (scope : Scope) (x : Str) (ifs : List Expr) (elt : Expr) (It : Nat → Value → Prop) (n : Nat) (pz : Nat → Bool) (B : Bring) (T : Addr) (s1 : Shared) : Prop :=
  ∀ (env : Env) (A' : Around) (E' : Value → Shared → Prop) (i : Nat) (v : Value) (s2 : Shared) (m2 : Str → Option Value), It i v → env.scope = scope → env.cells = cloFrom X.env.cells scope.names [] → A'.handled = none →
    s2.heap.Ns env.locals m2 → m2 x = some v → (∀ b o, b ≠ T → s1.heap.get? b = some o → s2.heap.get? b = some o) →
      wpAny (model X.prog X.w) A' (forIn ifs true fun c r => if r = true then do let ok ← isTrue c env (eval c env); pure (ForInStep.yield ok) else pure (ForInStep.yield r)) (fun ok s3 => ok = pz i ∧ PySem.Keeps s2 s3) E' s2 ∧
      (pz i = true → wpAny (model X.prog X.w) A' (eval elt env) (fun y s3 => (∃ news, B i y news ∧ (news.map Prod.fst).Nodup ∧ ∀ p ∈ news, s2.heap.get? p.1 = none ∧ s3.heap.get? p.1 = some p.2) ∧ PySem.Keeps s2 s3) E' s2)
def tTupO (X : Cx) (T : Addr) (scope : Scope) (x : Str) (ifs : List Expr) (elt : Expr) (te : TE) : TE := fun σ H Q => te σ H fun v H1 => ∃ (n : Nat) (It : Nat → Value → Prop) (pz : Nat → Bool) (f : Nat → PyData), n ≤ sizeLine ∧ GxR.TabG H1 T ∧
  (∀ pins s1 u, Inv X pins σ H1 s1 → RelV v u → OverOk X u s1 n It T ∧ MakeOk X scope x ifs elt It n pz (BringD X.K f H1) T s1) ∧
  ∀ (t : Addr) (vs : List V) (H2 : Hp), Grow H1 H2 → H1 t = none → H2 t = some (.tup vs) → DpAll X.K H2 vs (((List.range n).filter pz).map f) → Q (.ref t) H2
theorem tup_grow {P : Addr} {H1 : Hp} {q : Array Value} {L : List (Addr × List V)} (hP : ∃ ps, H1 P = some (.tbl ps) ∧ (TriplesOk ps.toList → TriplesOk q.toList)) (new : ∀ b ∈ L.map Prod.fst, H1 b = none) : Grow H1 (tupsAt L (upd H1 P (.tbl q))) := by
  obtain ⟨ps, hP, ht⟩ := hP
  have nP : P ∉ L.map Prod.fst := fun z => by rw [new P z] at hP; cases hP
  refine ⟨fun b o e => ?_, fun b r e => ?_⟩
  · obtain ⟨e1, e2⟩ := offT_some e
    have bP : b ≠ P := fun z => by rw [z, hP] at e1; cases e1; exact e2 _ rfl
    have nb : b ∉ L.map Prod.fst := fun z => by rw [new b z] at e1; cases e1
    exact offT_at (by rw [tupsAt_out nb, upd_ne bP]; exact e1) e2
  · by_cases bP : b = P
    · rw [bP, hP] at e
      cases e
      exact ⟨q, by rw [bP, tupsAt_out nP]; exact upd_same, ht⟩
    · have nb : b ∉ L.map Prod.fst := fun z => by rw [new b z] at e; cases e
      exact ⟨r, by rw [tupsAt_out nb, upd_ne bP]; exact e, id⟩
theorem objOk_there {P : Program} {w : World} {H : Hp} {h : Heap} {a : Addr} {o : HO} (x : ObjOk P w H h a o) : ∃ u, h.get? a = some u := by
  cases o with
  | lst xs => obtain ⟨_, _, _, _, e⟩ := x; exact ⟨_, e⟩
  | tup xs => obtain ⟨_, _, _, _, e, _⟩ := x; exact ⟨_, e⟩
  | dK kvs => obtain ⟨_, _, _, _, _, _, _, e, _⟩ := x; exact ⟨_, e⟩
  | dT kvs => obtain ⟨_, _, _, _, _, _, _, e, _⟩ := x; exact ⟨_, e⟩
  | set S n => obtain ⟨_, _, _, _, e, _⟩ := x; exact ⟨_, e⟩
  | ins C dx fs => obtain ⟨_, _, _, e, _⟩ := x; exact ⟨_, e⟩
  | own y => exact x
  | xd fs => obtain ⟨_, ⟨_, _, _, e, _⟩, _⟩ := x; exact ⟨_, e⟩
  | rng lo hi => obtain ⟨_, _, _, e⟩ := x; exact ⟨_, e⟩
  | frz ob u => exact ⟨_, x.1⟩
  | tbl ps => exact ⟨_, x⟩
  | met f y => exact ⟨_, x⟩
  | ext φ => exact x.2.1
section
variable {X : Cx}
theorem pe_tupO {c T : Addr} {elt iter : Expr} {ifs : List Expr} {x : Str} {px p pos gpos : Pos} {scope : Scope} {te : TE} {k : Nat}
    (hr : Room k X.A) (hg : Gl X "tuple") (hm : X.mg "tuple" = none) (TB : GxR.TabB X.base X.mg c T) (hcode : X.env.code = .ref c) (S : GxR.GenS X.env scope x) (hi : PE X iter te) (hs : ∀ v, genFold iter X.env v = pure v)
    (hc : X.calm = true) (he : starEach [.GeneratorExp elt [⟨.Name x px, iter, ifs, 0⟩] scope gpos] X.env = (false, eval (.GeneratorExp elt [⟨.Name x px, iter, ifs, 0⟩] scope gpos) X.env) :: starEach [] X.env := by rfl) :
    PE X (.Call (.Name "tuple" p) [.GeneratorExp elt [⟨.Name x px, iter, ifs, 0⟩] scope gpos] [] pos) (tTupO X T scope x ifs elt te) := by
  refine ⟨fun pins s σ H Q I h => ?_⟩
  refine wpAny_Call_Name_kw (ld_blt I hg hm (show bootBuiltins "tuple" = some (.type "tuple") by decide +kernel) (PyProof.Rows.callWith_type1 ?_ he (by rfl)))
  rw [he]
  refine (?_ : wpAny _ _ (spliced ((false, eval (.GeneratorExp elt [⟨.Name x px, iter, ifs, 0⟩] scope gpos) X.env) :: backTo pos (starEach [] X.env))) _ _ s)
  have calm := I.ok.hd hc
  refine Calls.spliced_cons (wpAny_GeneratorExp_make S.co (closure_ok S.free) S.cell S.dot S.kind (by have := hr.dp; omega) ?_ hs)
  refine thn (hi.run pins s σ H _ I h) fun xv s1 ⟨v, H1, I1, r1, n, It, pz, f, hz, ⟨ps, hP, ht⟩, hO, q⟩ => ?_
  obtain ⟨⟨ob, fp0, St, itr, W, fpl, st0, live⟩, MO⟩ := hO pins s1 xv I1 r1
  refine itr _ _ ?_
  have gP : s1.heap.get? T = some { cls := .none, data := .fields ps } := I1.hok T _ hP
  have Plt : T < s1.heap.objs.size := Heap.lt_size gP
  have gP2 : (s1.heap.push ob).get? T = some { cls := .none, data := .fields ps } := Heap.get?_push_of_some _ gP
  have cd : PySem.W.CodeHd (s1.heap.push ob) c T := TB.code.keeps fun b u e => Heap.get?_push_of_some _ (I1.bk b u e)
  have lim2 : (s1.heap.push ob).NoLimit := I1.nolimit.push ob
  have sz2 : (s1.heap.push ob).objs.size = s1.heap.objs.size + 1 := Heap.size_push ..
  have main : ∀ (code : Value) (h3 : Heap) (tk : Nat) (qs : Array Value), Heap.ExtBut T (s1.heap.push ob) h3 → (s1.heap.push ob).objs.size ≤ h3.objs.size → h3.get? T = some { cls := .none, data := .fields qs } → (∃ more, qs = ps ++ more) → TriplesOk qs.toList →
      wpAny (model X.prog X.w) X.A (builtinsFor X.env.globals X.env.builtins) (fun bi s4 =>
        ∀ h', h'.Ns s4.heap.objs.size (fun y => if y = ".0" then some (Value.ref s1.heap.objs.size) else none) → Heap.SameBut s4.heap.objs.size (s4.heap.push { cls := .type "frame", data := .dict #[] }) h' →
          wpAny (model X.prog X.w) X.A (spliced (backTo pos (starEach [] X.env))) (fun a_1 s' => wpAny (model X.prog X.w) X.A (call (.type "tuple") (.ref h'.objs.size :: a_1)) (EP X pins σ Q) X.xe s') X.xe
            { s4 with
              gens := s4.gens.push (.fresh (.compStart (.GeneratorExp elt [⟨.Name x px, iter, ifs, 0⟩] scope gpos) 0 (.ref s1.heap.objs.size) .none (genEnv scope (cloFrom X.env.cells scope.names []) s4.heap.objs.size code bi X.env))),
              toks := s4.toks + 1 + 1 + 1,
              heap := h'.push { cls := .type "generator", data := .fields #[.int s4.gens.size 0, .str "<genexpr>" (s4.toks + 1), .str (X.env.qual ++ "<genexpr>") (s4.toks + 1 + 1)] } }) X.xe { s1 with heap := h3, toks := tk } := by
    intro code h3 tk qs hx hsz gP3 hmore ht3
    obtain ⟨bm, bo, e1, e2, e3, e4, e5, e6, e7, e8⟩ := TB.bm
    have csP : cStatics ≠ T := fun e => by
      obtain ⟨_, hns, _⟩ := I1.nolimit
      obtain ⟨o', es, ep, ho, hd, _⟩ := hns
      rw [e, gP] at ho
      cases ho
      cases hd
    have cl : cStatics < s1.heap.objs.size := let ⟨_, hns, _⟩ := I1.nolimit; hns.lt
    have kp3 : ∀ b u, b ≠ T → s1.heap.get? b = some u → h3.get? b = some u := fun b u hb e => hx b u hb (Heap.get?_push_of_some _ e)
    refine wpAny_builtinsFor (m := X.mg) (by rw [I1.ok.glob]; exact ((I1.mod.glob.keeps I1.bk).push ob).extBut hx TB.gP) e1 e2 (kp3 _ _ e4 (I1.bk _ _ e5)) e6 e7 e8 ?_
    intro h' hn' hs'
    have hsz' : h'.objs.size = h3.objs.size + 1 := by rw [hs'.1, Heap.size_push]
    have keep' : ∀ b o, h3.get? b = some o → h'.get? b = some o := fun b o e => hs'.extBut b o (Nat.ne_of_lt (Heap.lt_size e)) (Heap.get?_push_of_some _ e)
    generalize hG : ({ cls := .type "generator", data := .fields #[.int s1.gens.size 0, .str "<genexpr>" (tk + 1), .str (X.env.qual ++ "<genexpr>") (tk + 1 + 1)] } : Obj) = go
    have keep5 : ∀ b o, h3.get? b = some o → (h'.push go).get? b = some o := fun b o e => Heap.get?_push_of_some _ (keep' b o e)
    have old5 : ∀ b o, b ≠ T → s1.heap.get? b = some o → (h'.push go).get? b = some o := fun b o hb e => keep5 b o (kp3 b o hb e)
    refine Calls.spliced_nil ?_
    have szS : s1.heap.objs.size < h3.objs.size := by omega
    have Ap : Apart X.A.in1.in1.in1.in1 h'.objs.size h3.objs.size (List.range h3.objs.size) [s1.heap.objs.size] :=
      ⟨calm, by rw [hsz']; exact Nat.succ_ne_self _, fun z => by have := List.mem_range.mp z; omega, fun b hb => by rw [List.mem_singleton.mp hb]; exact List.mem_range.mpr szS, (by have := hr.dp; show X.A.depth < recursionLimit; omega), List.mem_range.mpr (Nat.lt_trans cl szS), Nat.ne_of_lt (Nat.lt_trans cl szS), fun z => Nat.ne_of_lt cl (List.mem_singleton.mp z)⟩
    have Wf : ∀ A' : Around, A'.handled = none → Walks X.prog X.w A' s1.heap.objs.size (List.range h3.objs.size) [s1.heap.objs.size] n It St := fun A' hA => (W A' hA).mono_fp fun b hb => List.mem_range.mpr (Nat.lt_of_le_of_lt (fpl b hb) szS)
    have mk : ∀ bi : Addr, Makes X.prog X.w (genEnv scope (cloFrom X.env.cells scope.names []) h3.objs.size code bi X.env) x ifs elt (List.range h3.objs.size) [s1.heap.objs.size] It pz (BringD X.K f H1) (h'.push go) := fun bi => by
      have old : ∀ (s2 : Shared), (∀ b ∈ List.range h3.objs.size, b ∉ [s1.heap.objs.size] → ∀ o, (h'.push go).get? b = some o → s2.heap.get? b = some o) → ∀ b o, b ≠ T → s1.heap.get? b = some o → s2.heap.get? b = some o := fun s2 hk b o hb e => by
        have lt1 := Heap.lt_size e
        refine hk b (List.mem_range.mpr (Heap.lt_size (kp3 b o hb e))) (fun z => ?_) o (old5 b o hb e)
        rw [List.mem_singleton.mp z] at lt1
        exact Nat.lt_irrefl _ lt1
      refine ⟨⟨fun A' E' i v s2 m2 hA hv hns hm2 hk => (MO _ A' E' i v s2 m2 hv rfl rfl hA hns hm2 (old s2 hk)).1, fun A' E' i v s2 m2 hA hv hp hns hm2 hk => ?_⟩, fun A' E' i v s2 m2 hA hv hp hns hm2 hk => (MO _ A' E' i v s2 m2 hv rfl rfl hA hns hm2 (old s2 hk)).2 hp⟩
      exact wpAny_mono ((MO _ A' E' i v s2 m2 hv rfl rfl hA hns hm2 (old s2 hk)).2 hp) (fun y s3 z => ⟨trivial, z.2⟩) fun _ _ z => z
    have cs5 : (h'.push go).NoLimit := (lim2.extBut hx csP).keeps keep5
    have rd : ∀ bi : Addr, Ready X.prog X.w X.A.in1.in1.in1.in1 h'.objs.size s1.gens.size h3.objs.size (List.range h3.objs.size) [s1.heap.objs.size] pz n (BringD X.K f H1) 0 { s1 with gens := s1.gens.push (.fresh (.compStart (.GeneratorExp elt [⟨.Name x px, iter, ifs, 0⟩] scope gpos) 0 (.ref s1.heap.objs.size) .none (genEnv scope (cloFrom X.env.cells scope.names []) h3.objs.size code bi X.env))), toks := tk + 1 + 1 + 1, heap := h'.push go } := fun bi => by
      refine Ready.fresh (A := X.A.in1.in1.in1.in1) (env := genEnv scope (cloFrom X.env.cells scope.names []) h3.objs.size code bi X.env) (m := fun y => if y = ".0" then some (.ref s1.heap.objs.size) else none) calm Wf (fun i h st b hb => by rw [List.mem_singleton.mp hb]; exact live i h st) S.loc (by show (scope.kind == .class || (scope.kind == .module && _)) = false; rw [S.kind]; rfl) S.co (fun z => Nat.lt_irrefl _ (List.mem_range.mp z)) (mk bi) (by subst hG; exact ⟨_, _, _, Heap.get?_push_size _ rfl, rfl, rfl, rfl⟩) (Array.getElem?_push_size ..) (st0 _ fun b o hb e => keep5 b o (hx b o hb e)) (hn'.push _) cs5
    have few : (passing pz n 0).length ≤ sizeLine := by
      unfold passing
      exact Nat.le_trans (List.length_filter_le _ _) (by rw [List.drop_zero, List.length_range]; exact hz)
    have sz5 : (h'.push go).objs.size = h3.objs.size + 2 := by rw [Heap.size_push, hsz']
    refine bring_tuple Ap (rd _) few (by show h'.objs.size < (h'.push go).objs.size; omega) (by show h3.objs.size < (h'.push go).objs.size; omega) (fun b hb => Nat.lt_trans (List.mem_range.mp hb) (by show h3.objs.size < (h'.push go).objs.size; omega)) fun s' acc nss mv F => ?_
    obtain ⟨more, em⟩ := hmore
    have nw : ∀ b u, s1.heap.get? b = some u → b ∉ h3.objs.size :: [s1.heap.objs.size] := fun b u e hb => by
      have hl := Heap.lt_size e
      rcases List.mem_cons.mp hb with z | z
      · rw [z] at hl
        exact Nat.lt_asymm szS hl
      · rw [List.mem_singleton.mp z] at hl
        exact Nat.lt_irrefl _ hl
    have kept : ∀ b u, b ≠ T → s1.heap.get? b = some u → s'.heap.get? b = some u := fun b u hb e => mv.heap b u (nw b u e) (old5 b u hb e)
    have J := GxR.inv_tab (more := more) (h' := s'.heap) (g' := s'.gens) (d' := s'.drawn) (t' := s'.toks) I1 hP kept (by rw [← em]; exact mv.heap T _ (nw T _ gP) (keep5 T _ gP3)) (AllBare.movedS (I1.bare.push rfl) mv)
    rw [GxR.sh_eta s1 s' mv.os] at J
    have len0 : passing pz n 0 = (List.range n).filter pz := by unfold passing; rw [List.drop_zero]
    obtain ⟨vs, L, v1, v2, v3⟩ := bring_all (K := X.K) (f := f) (H1 := H1) acc.toList nss (passing pz n 0) (by rw [Array.length_toList, F.size]) F.len fun k v news h1 h2 => F.each k v news (by simpa using h1) h2
    have fst := paired_fst v2
    have none1 : ∀ b ∈ L.map Prod.fst, s1.heap.get? b = none := fun b hb => by
      rw [fst] at hb
      obtain ⟨p, hp, rfl⟩ := List.mem_map.mp hb
      cases e : s1.heap.get? p.1 with
      | none => rfl
      | some u =>
        have z := (F.there p hp).2.1
        by_cases hT : p.1 = T
        · rw [hT] at z
          exact absurd ((keep5 T _ gP3).symm.trans z) (by simp)
        · exact absurd ((old5 _ _ hT e).symm.trans z) (by simp)
    have free1 : ∀ b ∈ L.map Prod.fst, H1 b = none := fun b hb => by
      cases e : H1 b with
      | none => rfl
      | some o =>
        obtain ⟨u, hu⟩ := objOk_there (I1.hok b o e)
        exact absurd (hu.symm.trans (none1 b hb)) (by simp)
    have neT : ∀ b ∈ L.map Prod.fst, b ≠ T := fun b hb z => by
      have y := none1 b hb
      rw [z, gP] at y
      cases y
    have J2 := Inv.more I1 J (fun b hb => ⟨none1 b hb, by rw [upd_ne (neT b hb)]; exact free1 b hb⟩) fun p hp => by
      obtain ⟨r, hr', t1, t2, us, t3, t4, m, t5⟩ := paired_mem v2 p hp
      refine ⟨t2, us, t3, r.2, ?_, t4, m, t5⟩
      rw [← t1]
      exact (F.there r hr').2.2
    have gr : Grow H1 (tupsAt L (upd H1 T (.tbl (ps ++ more)))) := tup_grow ⟨ps, hP, fun _ => by rw [← em]; exact ht3⟩ free1
    have fresh2 := J2.hok.fresh (Nat.le_refl s'.heap.objs.size)
    have vl : vs.length = acc.size := by rw [v1.length, Array.length_toList]
    have g2 : Grow H1 (upd (tupsAt L (upd H1 T (.tbl (ps ++ more)))) s'.heap.objs.size (.tup vs)) := gr.trans (Grow.new fresh2)
    refine ⟨.ref _, _, J2.laid (t' := s'.toks) (o := .tup vs) (fun b o' z => Heap.get?_push_of_some _ z) (Nat.le_refl _) ⟨by rw [vl, F.size]; exact few, acc.toList, v1, _, Heap.get?_push_size _ rfl, rfl, _, rfl⟩, rfl, q _ vs _ g2 ?_ upd_same ?_⟩
    · cases e : H1 s'.heap.objs.size with
      | none => rfl
      | some o =>
        cases o with
        | tbl z =>
          obtain ⟨z', e', _⟩ := gr.t _ _ e
          exact absurd (e'.symm.trans fresh2) (by simp)
        | _ => exact absurd ((gr.at e).symm.trans fresh2) (by simp)
    · rw [← len0]
      refine v3 _ g2 fun p hp => ?_
      have hin : tupsAt L (upd H1 T (.tbl (ps ++ more))) p.1 = some (.tup p.2) := tupsAt_in (by rw [fst]; exact F.nd) p hp
      rw [upd_ne (ne_of_none hin fresh2)]
      exact hin
  refine ⟨lim2, ?_⟩
  cases hf : codeAmong gpos ps.toList with
  | none =>
    refine wpAny_genexprCodeX hcode (cd.code gP2 ht) (cd.tab gP2) hf fun c' h' tk hx hge hlt hco' _ htab' _ => ?_
    obtain ⟨_, _, _, _, _, _, _, _, _, _, _, _, _, _, _, _, _, _, _, htr, _⟩ := hco'
    exact main _ h' tk _ hx (Nat.le_trans hge (Nat.le_of_lt hlt)) htab'.2 ⟨_, rfl⟩ htr
  | some cv =>
    refine wpAny_genexprCode_hit hcode (cd.code gP2 ht) hf ?_
    exact main cv (s1.heap.push ob) s1.toks ps (Heap.ExtBut.refl _ _) (Nat.le_refl _) gP2 ⟨#[], by simp⟩ ht
end
/-! ### elements that make a pair -/
section
variable {P : Program} {w : World} {A : Around} {env : Env} {s : Shared} {a b : Expr} {pos : Pos} {k : Nat}
theorem gm_two {R1 R2 : Value → Prop} (ha : GV P w A env s a R1) (hb : GV P w A env s b R2) (st : starEach [a, b] env = (false, eval a env) :: (false, eval b env) :: starEach [] env := by rfl) (E : Value → Shared → Prop) :
    wpAny (model P w) A (eval (.Tuple [a, b] k pos) env) (fun y s3 => (∃ q u v, y = .ref q ∧ R1 u ∧ R2 v ∧ s.heap.get? q = none ∧ s3.heap.get? q = some { cls := .type "tuple", data := .seq [u, v].toArray }) ∧ PySem.Keeps s s3) E s := by
  refine wpAny_Tuple_spliced ?_
  rw [st]
  refine (?_ : wpAny _ _ (spliced ((false, eval a env) :: backTo pos ((false, eval b env) :: starEach [] env))) _ _ s)
  refine Calls.spliced_cons (wpAny_mono (ha E s (GxR.keeps_refl _)) (fun u s1 ⟨r1, k1⟩ => ?_) fun _ _ z => z)
  refine (?_ : wpAny _ _ (spliced ((false, eval b env) :: backTo pos (starEach [] env))) _ _ s1)
  refine Calls.spliced_cons (wpAny_mono (hb E s1 k1) (fun v s2 ⟨r2, k2⟩ => ?_) fun _ _ z => z)
  refine Calls.spliced_nil ⟨by show 2 ≤ sizeLine; decide, ⟨s2.heap.objs.size, u, v, rfl, r1, r2, ?_, Heap.get?_push_size _ rfl⟩, ?_⟩
  · cases e : s.heap.get? s2.heap.objs.size with
    | none => rfl
    | some o => exact absurd (Heap.lt_size (keepsH k2 _ _ e)) (Nat.lt_irrefl _)
  · obtain ⟨h, t, rfl, kk⟩ := k2
    exact ⟨_, t, rfl, fun c o e => Heap.get?_push_of_some _ (kk c o e)⟩
end
/-- over a tuple of numbers -/
theorem over_tup {X : Cx} {s1 : Shared} {a T : Addr} {its : List Value} {ps : Array Value} (calm : X.A.handled = none) (ht : IsTup s1.heap a its.toArray) (hT : s1.heap.get? T = some { cls := .none, data := .fields ps }) : OverOk X (.ref a) s1 its.length (fun i v => its[i]? = some v) T := by
  have al : a < s1.heap.objs.size := ht.lt
  have aT : a ≠ T := fun z => by
    obtain ⟨o, ho, _, n, hd⟩ := ht
    rw [z, hT] at ho
    cases ho
    cases hd
  have tT : s1.heap.objs.size ≠ T := fun z => Nat.lt_irrefl _ (z ▸ Heap.lt_size hT)
  have sz : its.toArray.size = its.length := List.size_toArray ..
  refine ⟨{ cls := .type "tuple_iterator", data := .fields #[.ref a, .int 0 0] }, [s1.heap.objs.size, a], fun i h => h.IsTupleIter s1.heap.objs.size a i ∧ h.IsTuple a its.toArray, fun Q E q => wpAny_pyIter_tuple (show s1.heap.IsTuple a its.toArray from ht) q, fun A' hA => ?_, fun b hb => ?_, fun h' k => ⟨?_, ?_⟩, fun i h st => ?_⟩
  · have W := Walks.tuple (prog := X.prog) (w := X.w) hA s1.heap.objs.size a (Nat.ne_of_lt al) its.toArray
    rw [sz] at W
    refine { W with item := fun i s Q E hi st hQ => W.item i s Q E hi st fun v h' tk hv => hQ v h' tk (by simpa using hv) }
  · rcases List.mem_cons.mp hb with z | z
    · exact Nat.le_of_eq z
    · rw [List.mem_singleton.mp z]; exact Nat.le_of_lt al
  · exact ⟨_, k _ _ tT (Heap.get?_push_size _ rfl), rfl, rfl⟩
  · obtain ⟨o, ho, r⟩ := ht
    exact ⟨o, k _ _ aT (Heap.get?_push_of_some _ ho), r⟩
  · obtain ⟨⟨o, ho, _⟩, _⟩ := st
    exact ⟨o, ho⟩
/-! ### enumerate over a tuple, from a number on -/
def IteT (K : PySem.W.Frag) (a : Addr) (c : Int) : It :=
  ⟨fun i H => ∃ (xs : List V) (x : V), SqT K H a xs ∧ xs[i]? = some x, fun i H v H' => ∃ T x, v = .ref T ∧ H T = none ∧ H' = upd H T (.tup [.int (c + (i : Int)), x]) ∧ ∀ xs, SqT K H a xs → xs[i]? = some x, fun i H => ∃ xs : List V, SqT K H a xs ∧ xs.length ≤ i⟩
theorem turn_enumT {P : Program} {w : World} {K : PySem.W.Frag} {elts : List Expr} {kk : Nat} {tpos : Pos} (a e it : Addr) (c : Int) :
    Turn P w K (.Tuple elts kk tpos) (IteT K a c) [e, it] e (fun i h => (∃ old, IsEnum h e it (c + (i : Int)) old) ∧ h.IsTupleIter it a i ∧ e ≠ it) where
  mem := by simp
  obj := fun i h st b hb => by
    obtain ⟨⟨old, he⟩, ⟨o, ho, hc, hd⟩, _⟩ := st
    rcases (by simpa using hb : b = e ∨ b = it) with z | z
    · rw [z]; exact ⟨_, he, fun v q => nomatch q⟩
    · rw [z]; exact ⟨o, ho, fun v q => by rw [hd] at q; cases q⟩
  keep := fun i h h' st k => let ⟨⟨old, he⟩, hi, ne⟩ := st; ⟨⟨old, k e (by simp) _ he⟩, hi.at fun o q => k it (by simp) o q, ne⟩
  item := by
    intro X hP hw hK hc i pins s σ H E I hf st hg
    subst hP hw hK
    obtain ⟨⟨old, he⟩, hit, ne⟩ := st
    obtain ⟨xs, x, hq, hx⟩ := hg
    obtain ⟨its, rv, p, hz⟩ := I.tuple hq
    obtain ⟨u, hu, ru⟩ := rv.get hx
    have el : e < s.heap.objs.size := Heap.lt_size he
    have il : it < s.heap.objs.size := by obtain ⟨_, q, _⟩ := hit; exact Heap.lt_size q
    have ai : a ≠ it := fun z => by
      obtain ⟨o1, q1, c1, _⟩ := hit
      obtain ⟨o2, q2, c2, _⟩ := p
      rw [z, q1] at q2
      cases q2
      rw [c1] at c2
      exact absurd c2 (by decide)
    have ae : a ≠ e := fun z => by
      obtain ⟨o2, q2, c2, _⟩ := p
      have q1 : s.heap.get? e = _ := he
      rw [z, q1] at q2
      cases q2
      exact absurd c2 (by show ¬ Value.type "enumerate" = Value.type "tuple"; decide)
    have D := Draws.tuple (prog := X.prog) (w := X.w) (A := X.A.in1) (I.ok.hd hc) it a ai its.toArray
    have isT : s.heap.IsTuple a its.toArray := p
    have lt : i < its.toArray.size := by rw [List.size_toArray]; exact (List.getElem?_eq_some_iff.mp hu).1
    refine wpAny_pyNext_enum_itemC D he ⟨hit, isT⟩ lt ne (by simp [ne, Ne.symm ae]) fun y h' tk hy ho st' hT hsz hk => ?_
    have ey : y = u := by
      have hy' : its.toArray[i]? = some y := hy
      rw [List.getElem?_toArray, hu] at hy'
      exact (Option.some.inj hy').symm
    subst ey
    refine ⟨_, rfl, wpAny_letOwnedTupleGo_enum (s := { s with heap := h', toks := tk + 1 }) ho fun h2 he2 sb => ?_⟩
    have hT2 : h2.get? s.heap.objs.size = some { cls := .type "tuple", data := .seq #[.int (c + (i : Int)) tk, y] } := (sb.2 _ (Nat.ne_of_gt el)).trans hT
    have new : ObjOk X.prog X.w (upd H s.heap.objs.size (.tup [.int (c + (i : Int)), x])) h2 s.heap.objs.size (.tup [.int (c + (i : Int)), x]) := ⟨by show 2 ≤ sizeLine; decide, [.int (c + (i : Int)) tk, y], .cons ⟨_, rfl⟩ (.cons ru .nil), ⟨_, hT2, rfl, _, rfl⟩⟩
    have I1 : Inv X pins σ (upd H s.heap.objs.size (.tup [.int (c + (i : Int)), x])) { s with heap := h2, toks := tk + 1 } :=
      I.turnedNew (ch := [e, it]) (fun b ob hb q => (sb.2 b (fun z => hb (by simp [z]))).trans (hk b ob (fun z => hb (by simp [z])) (fun z => hb (by simp [z])) q)) hf (Nat.le_refl _) new
    refine ⟨.ref s.heap.objs.size, _, I1, rfl, ⟨_, x, rfl, I.hok.fresh (Nat.le_refl _), rfl, fun ys hy2 => ?_⟩, ⟨⟨y, ?_⟩, st'.1.at fun o q => (sb.2 it (Ne.symm ne)).trans q, ne⟩, fun b hb => ?_⟩
    · rw [I.tuple_inj hy2 hq]; exact hx
    · rw [show c + ((i + 1 : Nat) : Int) = c + (i : Int) + 1 by omega]; exact he2
    · have hb' : b < s.heap.objs.size := by
        rcases (by simpa using hb : b = e ∨ b = it) with z | z
        · rw [z]; exact el
        · rw [z]; exact il
      rw [upd_ne (Nat.ne_of_lt hb')]
      exact (hf b hb).1
  done := by
    intro X hP hw hK hc i pins s σ H E I hf st hg
    subst hP hw hK
    obtain ⟨⟨old, he⟩, hit, ne⟩ := st
    obtain ⟨xs, hq, hx⟩ := hg
    obtain ⟨its, rv, p, hz⟩ := I.tuple hq
    obtain ⟨f0, f1, f2, f3, f4, f5⟩ := hf it (by simp)
    have hl := rv.length
    have isT : s.heap.IsTuple a its.toArray := p
    have D0 : Draws X.prog X.w X.A.in1 it [it, a] 0 (fun _ _ => False) (fun _ h => h.IsTupleIter it a i ∧ h.IsTuple a its.toArray) :=
      ⟨fun _ _ st => let ⟨o, ho, _⟩ := st.1; ⟨o, ho⟩, fun _ _ _ st k => ⟨st.1.at fun o q => k it (by simp) o q, st.2.at fun o q => k a (by simp) o q⟩, fun j s Q E lt => absurd lt (Nat.not_lt_zero j), fun s Q E st q => wpAny_nextOf_tuple_end (I.ok.hd hc) st.1 st.2 (by rw [List.getElem?_toArray]; exact List.getElem?_eq_none (by omega)) q⟩
    exact wpAny_pyNext_enum_endD D0 he ⟨hit, isT⟩ fun h' eb => ⟨rfl, I.turned (t' := s.toks) (fun b o hb q => eb b o hb q) f0 f1 f3 f4 f5⟩
  self := fun A i s Q E st h => let ⟨⟨_, he⟩, _⟩ := st; wpAny_pyIter_enum he h
/-- enumerate(v): its two new cells -/
theorem meets_enum1 {v : Value} {o : Obj} {Hh : Heap → Prop} (B : Begins v o Hh) :
    Meets (Builtin.«enumerate.__new__» ⟨[.type "enumerate", v], []⟩) (fun _ R s => Hh s.heap ∧ R (.ok (.ret (.ref (s.heap.push o).objs.size))) { s with heap := (s.heap.push o).push { cls := .type "enumerate", data := .fields #[.none, .bool false, .ref s.heap.objs.size, rawInt 0, .none, .none] } }) :=
  .of_wp fun prog w A R s h => by
    obtain ⟨hp, g, d, tk, os⟩ := s
    obtain ⟨h1, h⟩ := h
    have sub := sub_enumerate
    have q1 : ∀ {A' : Around} {E : Value → Shared → Prop} {Q : Value → Shared → Prop}, Q (.ref hp.objs.size) ⟨hp.push o, g, d, tk, os⟩ → wpAny (model prog w) A' (pyIter v) Q E ⟨hp, g, d, tk, os⟩ := fun q => B.iter prog w _ _ ⟨hp, g, d, tk, os⟩ _ h1 q
    wp_walk using q1
    refine wpAny_stack_any fun st => wpAny_pure ?_
    split
    · rename_i c _ _ _ _ _
      cases (c == Value.type "enumerate") <;> (wp_walk using q1; exact ⟨_, rfl, h⟩)
    · wp_walk using q1
      exact ⟨_, rfl, h⟩
theorem enum_begins1 {prog : Program} {w : World} {A : Around} {E : Value → Shared → Prop} {s : Shared} {v : Value} {o : Obj} {Hh : Heap → Prop} {Q : Value → Shared → Prop} (B : Begins v o Hh) (h1 : Hh s.heap)
    (h : ∀ h', IsEnum h' (s.heap.objs.size + 1) s.heap.objs.size 0 .none → h'.get? s.heap.objs.size = some o → h'.objs.size = s.heap.objs.size + 2 → (∀ b o, s.heap.get? b = some o → h'.get? b = some o) → Q (.ref (s.heap.objs.size + 1)) { s with heap := h' }) :
    wpAny (model prog w) A (call (.type "enumerate") [v]) Q E s := by
  refine callType_new PySem.F.called_enumerate (by decide) (PySem.F.typeCall_enumerate_1 _) (PySem.F.newCall_enumerate_1 _) (fun obj => PySem.F.args_object_init_2 obj _) PySem.F.entry_enumerate_new (meets_enum1 B) ⟨h1, ?_⟩
  have hz : (s.heap.push o).objs.size = s.heap.objs.size + 1 := Heap.size_push ..
  refine (?_ : _ ∧ _)
  rw [hz]
  have he : IsEnum ((s.heap.push o).push { cls := .type "enumerate", data := .fields #[.none, .bool false, .ref s.heap.objs.size, rawInt 0, .none, .none] }) (s.heap.objs.size + 1) s.heap.objs.size 0 .none := hz ▸ Heap.get?_push_size (s.heap.push o) (o := { cls := .type "enumerate", data := .fields #[.none, .bool false, .ref s.heap.objs.size, rawInt 0, .none, .none] }) rfl
  exact ⟨⟨_, he, rfl⟩, h _ he (Heap.get?_push_of_some _ (Heap.get?_push_size _ B.free)) (by rw [Heap.size_push, hz]) fun b o x => Heap.get?_push_of_some _ (Heap.get?_push_of_some _ x)⟩
section
variable {X : Cx}
theorem enum_over {pins : List (Addr × Obj)} {σ : L2.St} {H1 : Hp} {s1 : Shared} {elts : List Expr} {kk : Nat} {tpos : Pos} {R : It → Hp → Prop} {a : Addr} {xs : List V} {c : Int} (I1 : Inv X pins σ H1 s1) (hq : SqT X.K H1 a xs) (q : R (IteT X.K a c) H1) {h' : Heap}
    (he : IsEnum h' (s1.heap.objs.size + 1) s1.heap.objs.size c .none) (hi : h'.get? s1.heap.objs.size = some { cls := .type "tuple_iterator", data := .fields #[.ref a, .int 0 0] }) (hk : ∀ b o, s1.heap.get? b = some o → h'.get? b = some o) :
    wpAny (model X.prog X.w) X.A (pyIter (.ref (s1.heap.objs.size + 1))) (PIE X pins σ (.Tuple elts kk tpos) R) X.xe { s1 with heap := h' } := by
  refine wpAny_pyIter_enum he ?_
  have I2 : Inv X pins σ H1 { s1 with heap := h' } := I1.kept (t' := s1.toks) hk
  refine ⟨s1.heap.objs.size + 1, [s1.heap.objs.size + 1, s1.heap.objs.size], _, _, H1, rfl, I2, turn_enumT a (s1.heap.objs.size + 1) s1.heap.objs.size c, ⟨⟨.none, ?_⟩, ⟨_, hi, rfl, rfl⟩, Nat.succ_ne_self _⟩, fun b hb => ?_, q⟩
  · rw [show c + ((0 : Nat) : Int) = c by omega]; exact he
  · have hle : s1.heap.objs.size ≤ b := by
      rcases (by simpa using hb : b = s1.heap.objs.size + 1 ∨ b = s1.heap.objs.size) with z | z
      · rw [z]; exact Nat.le_add_right _ _
      · rw [z]; exact Nat.le_refl _
    exact I1.fpOk hle (I1.hok.fresh hle)
def iEnumT (K : PySem.W.Frag) (ta : TA) : TI := fun σ H R => ta σ H fun vs H1 => ∃ a xs, vs = [.ref a] ∧ SqT K H1 a xs ∧ R (IteT K a 0) H1
theorem pi_enumT {e : Expr} {ta : TA} {p pos tpos : Pos} {elts : List Expr} {kk : Nat} (hg : Gl X "enumerate") (hm : X.mg "enumerate" = none) (ha : PA X [e] ta) (hs : starEach [e] X.env = [(false, eval e X.env)] := by rfl) :
    PI X (.Tuple elts kk tpos) (.Call (.Name "enumerate" p) [e] [] pos) (iEnumT X.K ta) := by
  refine ⟨fun pins s σ H R I h => Call_ (ld_blt I hg hm boot_enumerate (PyProof.Rows.callWith_type1 (thn (ha.run pos pins s σ H _ I h) fun us s1 ⟨vs, H1, I1, r1, q1⟩ => ?_) hs rfl))⟩
  obtain ⟨a, xs, rfl, hq, q⟩ := q1
  rw [Vals.ref1 r1]
  obtain ⟨its, rv, p', hz⟩ := I1.tuple hq
  exact enum_begins1 (begins_tuple a its.toArray) p' fun h' he hi hsz hk => enum_over I1 hq q he hi hk
def iEnumTS (K : PySem.W.Frag) (ta tk : TA) : TI := fun σ H R => ta σ H fun vs H1 => tk σ H1 fun zs H2 => ∃ a xs c, vs = [.ref a] ∧ zs = [.int c] ∧ 0 ≤ c ∧ c < 2 ^ 62 ∧ SqT K H2 a xs ∧ R (IteT K a c) H2
theorem callWith_typeK {M : Model} {A : Around} {E : Value → Shared → Prop} {s : Shared} {pos : Pos} {T : String} {first : List Value} {args : List (Bool × Sem Value)} {kw : List (Option Str × Sem Value)} {Q : Value → Shared → Prop} (pl : args.any (·.1) = false) (kn : kw.any (·.1.isNone) = false)
    (h : wpAny M A (evalArgs (.type T) true args kw) (fun a s1 => wpAny M A (call (.type T) (first ++ a.pos) a.kw) Q E s1) E s) : wpAny M A (callWith pos (.type T) first args kw) Q E s := by
  unfold callWith
  refine wpAny_bind (wpAny_holding (wpAny_mono h (fun a s1 h1 => wpAny_bind (wpAny_standAt ?_)) fun _ _ z => z))
  simp only [pl, kn, Bool.or_false]
  exact wpAny_bind (wpAny_pure (wpAny_bind (wpAny_mono h1 (fun r s2 hr => wpAny_bind (wpAny_holding (wpAny_point (wpAny_pure hr)))) fun _ _ z => z)))
theorem pi_enumTS {e e2 : Expr} {ta tk : TA} {p pos tpos kpos : Pos} {elts : List Expr} {kk : Nat} (hg : Gl X "enumerate") (hm : X.mg "enumerate" = none) (ha : PA X [e] ta) (hk : PK X [⟨some "start", e2, kpos⟩] tk) (hs : starEach [e] X.env = [(false, eval e X.env)] := by rfl) :
    PI X (.Tuple elts kk tpos) (.Call (.Name "enumerate" p) [e] [⟨some "start", e2, kpos⟩] pos) (iEnumTS X.K ta tk) := by
  refine ⟨fun pins s σ H R I h => wpAny_Call_Name_kw (ld_blt I hg hm boot_enumerate (callWith_typeK ?_ (by rfl) ?_))⟩
  · rw [hs]; rfl
  rw [hs]
  refine PyProof.Rows.evalArgs_kwB (by rfl) ?_
  have run := ha.run pos pins s σ H _ I h
  rw [hs] at run
  refine thn run fun us s1 ⟨vs, H1, I1, r1, q1⟩ => thn (hk.run pos pins s1 σ H1 _ I1 q1) fun ws s2 ⟨zs, H2, I2, r2, q2⟩ => ?_
  obtain ⟨a, xs, c, rfl, rfl, c0, c1, hq, q⟩ := q2
  rw [Vals.ref1 r1]
  obtain ⟨u, rfl, t, rfl⟩ := vals1 r2
  obtain ⟨its, rv, p', hz⟩ := I2.tuple hq
  exact enum_begins_start (begins_tuple a its.toArray) p' (by omega) (by omega) fun h' he hi hsz hk' => enum_over I2 hq q he hi hk'
end
theorem walk_enumT {K : PySem.W.Frag} {a : Addr} {xs : List V} {c : Int} : Walk (IteT K a c) xs.length (fun H => SqT K H a xs) (YPair (fun i => some (.int (c + (i : Int)))) (fun i => xs[i]?)) := by
  refine ⟨fun i _ hi q => ⟨xs, xs[i], q, List.getElem?_eq_getElem hi⟩, fun _ q => ⟨xs, q, Nat.le_refl _⟩, fun i H v H' _ q y => ?_⟩
  obtain ⟨T, x, h1, h2, h3, h4⟩ := y
  exact ⟨T, .int (c + (i : Int)), x, h1, h2, h3, rfl, h4 xs q⟩
/-! ### (x,) * k, for k of 0 and 1 -/
theorem tuple_mul1 (l : Addr) (items : Array Value) (n : Nat) (dd : Option Addr) (sl : Array (Option Value)) (u : Tok) :
    Meets (Builtin.«tuple.__mul__» ⟨[.ref l, .int 1 u], []⟩) (fun _ R s => s.heap.get? l = some { cls := .type "tuple", dict := dd, data := .seq items n, slots := sl } ∧ R (.ok (.ret (.ref l))) s) :=
  .of_wp fun prog w A R s h => by
    obtain ⟨hp, g, d, tk, os⟩ := s
    obtain ⟨hl, h⟩ := h
    have f1 := AutoSeq1.idx_int
    wp_walk using wpAny_loadPart' hl
    repeat (first
      | (refine wpAny_ite_false (decide_eq_false (by decide)) ?_; wp_walk using wpAny_loadPart' hl)
      | (refine wpAny_ite_true (decide_eq_true (by simp)) ?_; wp_walk using wpAny_loadPart' hl))
    exact ⟨_, rfl, h⟩
theorem tuple_mul0 (l : Addr) (it : Value) (n : Nat) (dd : Option Addr) (sl : Array (Option Value)) (u : Tok) :
    Meets (Builtin.«tuple.__mul__» ⟨[.ref l, .int 0 u], []⟩) (fun _ R s => s.heap.get? l = some { cls := .type "tuple", dict := dd, data := .seq #[it] n, slots := sl } ∧
      R (.ok (.ret (Value.ref s.heap.objs.size))) { s with heap := s.heap.push { cls := Value.type "tuple", data := Data.seq #[] }, toks := s.toks }) :=
  .of_wp fun prog w A R s h => by
    obtain ⟨hp, g, d, tk, os⟩ := s
    obtain ⟨hl, h⟩ := h
    have f1 := AutoSeq1.idx_int
    wp_walk using wpAny_loadPart' hl
    repeat (first
      | (refine wpAny_ite_false (decide_eq_false (by decide)) ?_; wp_walk using wpAny_loadPart' hl)
      | (refine wpAny_ite_true (decide_eq_true (by simp)) ?_; wp_walk using wpAny_loadPart' hl))
    exact ⟨_, rfl, h⟩
def rRepFew (K : PySem.W.Frag) : R2 := fun x y H Q => ∃ (l : Addr) (k : Int) (v : V), x = .ref l ∧ y = .int k ∧ SqT K H l [v] ∧ 0 ≤ k ∧ k ≤ 1 ∧ (k = 1 → Q (.ref l) H) ∧ (k = 0 → ∀ p, H p = none → Q (.ref p) (upd H p (.tup [])))
theorem op_repFew {X : Cx} : OpR X (binaryOp .Mult) (rRepFew X.K) := by
  rintro pins s σ H _ _ _ _ Q I rx ry ⟨l, k, v, rfl, rfl, hT, lo, hi, q1, q0⟩
  obtain ⟨its, r, ⟨⟨cl, dd, dat, sl⟩, ho, rfl, n, rfl⟩, _⟩ := I.tuple hT
  cases rx
  obtain ⟨tk, rfl⟩ := ry
  cases r with
  | cons ru rn =>
  rename_i u us
  cases rn
  have isT : s.TypeIs (.ref l) "tuple" := ⟨_, ho, rfl⟩
  refine wpAny_binaryOp_repeat_ref (T := "tuple") (U := "int") (by decide) isT (fun z => typeIs_int z k tk) noFill_tuple_mul F.fills_int_mul F.slot_int_rmul repeat_tuple F.slot_int_index.lookup ?_
  refine call_meets F.slot_int_rmul (typeIs_int s k tk) F.entry_int_rmul (F.args_int_rmul_2 _ _) (int_rmul_tuple k tk l [u].toArray n dd sl) ⟨ho, rfl, isT, ?_⟩
  obtain rfl | rfl : k = 0 ∨ k = 1 := by omega
  · refine call_meets F.slot_tuple_mul isT F.entry_tuple_mul (F.args_tuple_mul_2 _ _) (tuple_mul0 l u n dd sl tk) ⟨ho, ?_⟩
    refine ⟨.ref s.heap.objs.size, _, I.laid (t' := s.toks) (o := .tup []) (fun b o e => Heap.get?_push_of_some _ e) (Nat.le_refl _) ⟨Nat.zero_le _, _, .nil, _, Heap.get?_push_size _ rfl, rfl, _, rfl⟩, rfl, q0 rfl _ (I.hok.fresh (Nat.le_refl _))⟩
  · refine call_meets F.slot_tuple_mul isT F.entry_tuple_mul (F.args_tuple_mul_2 _ _) (tuple_mul1 l [u].toArray n dd sl tk) ⟨ho, ?_⟩
    exact ⟨.ref l, _, I, rfl, q1 rfl⟩
def topAt (i : Nat) : Stmt := PySem.Challenge.pw_sentnext_k16_what_is_a_story.main.body.getD i (.Pass ⟨0, 0, 0, 0⟩)
abbrev s_whole : Stmt := topAt 1
abbrev s_tuple_of : Stmt := topAt 2
abbrev s_changes_of : Stmt := topAt 4
abbrev s_is_course : Stmt := topAt 5
abbrev s_heads_back : Stmt := topAt 6
abbrev s_named_by : Stmt := topAt 7
abbrev s_asks : Stmt := topAt 9
abbrev s_behind : Stmt := topAt 10
abbrev s_tellings : Stmt := topAt 14
abbrev s_is_telling : Stmt := topAt 15
abbrev s_is_play : Stmt := topAt 16
abbrev s_is_story : Stmt := topAt 17
abbrev s_deck : Stmt := topAt 19
abbrev s_draw : Stmt := topAt 20
abbrev s_one : Stmt := topAt 21
abbrev s_power : Stmt := topAt 22
abbrev s_house : Stmt := topAt 23
abbrev s_rest_kept : Stmt := topAt 24
abbrev s_course : Stmt := topAt 25
abbrev s_names : Stmt := topAt 26
abbrev s_table : Stmt := topAt 27
abbrev s_asked : Stmt := topAt 28
abbrev s_later : Stmt := topAt 29
abbrev s_play : Stmt := topAt 30
abbrev s_odd : Stmt := topAt 31
abbrev s_bent : Stmt := topAt 32
abbrev s_both : Stmt := topAt 33
abbrev s_is_int : Stmt := topAt 34
abbrev s_l_is_course : Stmt := topAt 35
abbrev s_is_pair : Stmt := topAt 36
abbrev s_l_is_story : Stmt := topAt 37
abbrev s_otherwise : Stmt := topAt 38
abbrev s_law : Stmt := topAt 39
theorem sc_whole : FnScope ["value", "low", "high"] ["value", "low", "high"] (defScope s_whole) :=
  ⟨rfl, rfl, rfl, by decide +kernel, rfl, by decide +kernel, by decide +kernel⟩
theorem sc_tuple_of : FnScope ["value", "many"] ["value", "many"] (defScope s_tuple_of) :=
  ⟨rfl, rfl, rfl, by decide +kernel, rfl, by decide +kernel, by decide +kernel⟩
theorem sc_changes_of : FnScope ["course"] ["course"] (defScope s_changes_of) :=
  ⟨rfl, rfl, rfl, by decide +kernel, rfl, by decide +kernel, by decide +kernel⟩
theorem sc_is_course : FnScope ["house", "value", "servers", "rest", "_", "head", "changes", "soon", "late"] ["house", "value"] (defScope s_is_course) :=
  ⟨rfl, rfl, rfl, by decide +kernel, rfl, by decide +kernel, by decide +kernel⟩
theorem sc_heads_back : FnScope ["house", "course", "moment", "lag"] ["house", "course", "moment"] (defScope s_heads_back) :=
  ⟨rfl, rfl, rfl, by decide +kernel, rfl, by decide +kernel, by decide +kernel⟩
theorem sc_named_by : FnScope ["heads", "server", "named", "head"] ["heads", "server"] (defScope s_named_by) :=
  ⟨rfl, rfl, rfl, by decide +kernel, rfl, by decide +kernel, by decide +kernel⟩
theorem sc_asks : FnScope ["house", "table", "asker", "row", "named", "asked", "deed"] ["house", "table", "asker"] (defScope s_asks) :=
  ⟨rfl, rfl, rfl, by decide +kernel, rfl, by decide +kernel, by decide +kernel⟩
theorem sc_behind : FnScope ["house", "table", "asker", "name", "row", "named", "asked", "_", "ahead", "again", "server"] ["house", "table", "asker", "name"] (defScope s_behind) :=
  ⟨rfl, rfl, rfl, by decide +kernel, rfl, by decide +kernel, by decide +kernel⟩
theorem sc_tellings : FnScope ["heads", "server"] ["heads", "server"] (defScope s_tellings) :=
  ⟨rfl, rfl, rfl, by decide +kernel, rfl, by decide +kernel, by decide +kernel⟩
theorem sc_is_telling : FnScope ["house", "value", "part"] ["house", "value"] (defScope s_is_telling) :=
  ⟨rfl, rfl, rfl, by decide +kernel, rfl, by decide +kernel, by decide +kernel⟩
theorem sc_is_play : FnScope ["house", "table", "course", "told", "lag", "asker", "moment", "pair", "server"] ["house", "table", "course", "told"] (defScope s_is_play) :=
  ⟨rfl, rfl, rfl, by decide +kernel, rfl, by decide +kernel, by decide +kernel⟩
theorem sc_is_story : FnScope ["house", "table", "value", "course", "told"] ["house", "table", "value"] (defScope s_is_story) :=
  ⟨rfl, rfl, rfl, by decide +kernel, rfl, by decide +kernel, by decide +kernel⟩
theorem sc_deck : FnScope ["_law_script"] ["_law_script"] (defScope s_deck) :=
  ⟨rfl, rfl, rfl, by decide +kernel, rfl, by decide +kernel, by decide +kernel⟩
theorem sc_draw : FnScope ["_law_deck_here", "_law_many", "_law_found", "_law_cell", "_law_mixed"] ["_law_deck_here", "_law_many"] (defScope s_draw) :=
  ⟨rfl, rfl, rfl, by decide +kernel, rfl, by decide +kernel, by decide +kernel⟩
theorem sc_one : FnScope ["_law_deck_here", "_law_items"] ["_law_deck_here", "_law_items"] (defScope s_one) :=
  ⟨rfl, rfl, rfl, by decide +kernel, rfl, by decide +kernel, by decide +kernel⟩
theorem sc_power : FnScope ["_law_servers", "_law_lag", "_law_found", "_law_k"] ["_law_servers", "_law_lag"] (defScope s_power) :=
  ⟨rfl, rfl, rfl, by decide +kernel, rfl, by decide +kernel, by decide +kernel⟩
theorem sc_house : FnScope ["_law_deck_here", "_law_room", "_law_servers", "_law_fits", "_law_lag"] ["_law_deck_here", "_law_room"] (defScope s_house) :=
  ⟨rfl, rfl, rfl, by decide +kernel, rfl, by decide +kernel, by decide +kernel⟩
theorem sc_rest_kept : FnScope ["_law_course_here", "_law_rest", "_law_some", "_law_moment", "_law_one_here", "_law_other"] ["_law_course_here", "_law_rest"] (defScope s_rest_kept) :=
  ⟨rfl, rfl, rfl, by decide +kernel, rfl, by decide +kernel, by decide +kernel⟩
theorem sc_course : FnScope ["_law_deck_here", "_law_house_here", "_law_many", "_law_found", "_law_often", "_law_k", "_law_head"] ["_law_deck_here", "_law_house_here", "_law_many"] (defScope s_course) :=
  ⟨rfl, rfl, rfl, by decide +kernel, rfl, by decide +kernel, by decide +kernel⟩
theorem sc_names : FnScope ["_law_house_here", "_law_course_here", "_law_moment", "_law_server", "_law_found", "_law_here"] ["_law_house_here", "_law_course_here", "_law_moment", "_law_server"] (defScope s_names) :=
  ⟨rfl, rfl, rfl, by decide +kernel, rfl, by decide +kernel, by decide +kernel⟩
theorem sc_table : FnScope ["_law_deck_here", "_law_room", "_law_many", "_law_found", "_law_k", "_law_act"] ["_law_deck_here", "_law_room"] (defScope s_table) :=
  ⟨rfl, rfl, rfl, by decide +kernel, rfl, by decide +kernel, by decide +kernel⟩
theorem sc_asked : FnScope ["_law_house_here", "_law_table_here", "_law_asker", "_law_act"] ["_law_house_here", "_law_table_here", "_law_asker"] (defScope s_asked) :=
  ⟨rfl, rfl, rfl, by decide +kernel, rfl, by decide +kernel, by decide +kernel⟩
theorem sc_later : FnScope ["_law_house_here", "_law_table_here", "_law_asker", "_law_name", "_law_row", "_law_named", "_law_asked_here", "_law_act", "_law_ahead", "_law_again"] ["_law_house_here", "_law_table_here", "_law_asker", "_law_name"] (defScope s_later) :=
  ⟨rfl, rfl, rfl, by decide +kernel, rfl, by decide +kernel, by decide +kernel⟩
theorem sc_play : FnScope ["_law_deck_here", "_law_house_here", "_law_table_here", "_law_course_here", "_law_asker", "_law_found", "_law_moment", "_law_server", "_law_name"] ["_law_deck_here", "_law_house_here", "_law_table_here", "_law_course_here"] (defScope s_play) :=
  ⟨rfl, rfl, rfl, by decide +kernel, rfl, by decide +kernel, by decide +kernel⟩
theorem sc_odd : FnScope ["_law_deck_here", "_law_some"] ["_law_deck_here"] (defScope s_odd) :=
  ⟨rfl, rfl, rfl, by decide +kernel, rfl, by decide +kernel, by decide +kernel⟩
theorem sc_bent : FnScope ["_law_deck_here", "_law_thing", "_law_deep", "_law_at", "_law_sort"] ["_law_deck_here", "_law_thing", "_law_deep"] (defScope s_bent) :=
  ⟨rfl, rfl, rfl, by decide +kernel, rfl, by decide +kernel, by decide +kernel⟩
theorem sc_both : FnScope ["_law_deck_here", "_law_room", "_law_house_here"] ["_law_deck_here", "_law_room"] (defScope s_both) :=
  ⟨rfl, rfl, rfl, by decide +kernel, rfl, by decide +kernel, by decide +kernel⟩
theorem sc_is_int : FnScope ["_law_value", "_law_low", "_law_high"] ["_law_value", "_law_low", "_law_high"] (defScope s_is_int) :=
  ⟨rfl, rfl, rfl, by decide +kernel, rfl, by decide +kernel, by decide +kernel⟩
theorem sc_l_is_course : FnScope ["_law_house_here", "_law_value", "_law_one_here"] ["_law_house_here", "_law_value"] (defScope s_l_is_course) :=
  ⟨rfl, rfl, rfl, by decide +kernel, rfl, by decide +kernel, by decide +kernel⟩
theorem sc_is_pair : FnScope ["_law_house_here", "_law_value", "_law_one_here"] ["_law_house_here", "_law_value"] (defScope s_is_pair) :=
  ⟨rfl, rfl, rfl, by decide +kernel, rfl, by decide +kernel, by decide +kernel⟩
theorem sc_l_is_story : FnScope ["_law_house_here", "_law_table_here", "_law_value", "_law_course_here", "_law_pairs", "_law_asker", "_law_place", "_law_pair", "_law_moment", "_law_some"] ["_law_house_here", "_law_table_here", "_law_value"] (defScope s_l_is_story) :=
  ⟨rfl, rfl, rfl, by decide +kernel, rfl, by decide +kernel, by decide +kernel⟩
theorem sc_otherwise : FnScope ["_law_deck_here", "_law_house_here", "_law_story", "_law_course_here", "_law_pairs", "_law_sort", "_law_spot", "_law_server", "_law_name", "_law_odd_here", "_law_place"] ["_law_deck_here", "_law_house_here", "_law_story"] (defScope s_otherwise) :=
  ⟨rfl, rfl, rfl, by decide +kernel, rfl, by decide +kernel, by decide +kernel⟩
theorem sc_law : FnScope ["_law_script", "_law_deck_here", "_law_lap", "_law_house_here", "_law_table_here", "_law_course_here", "_law_pairs", "_law_asker", "_law_is_served", "_law_story", "_law_values", "_law_many", "_law_long", "_law_value", "_law_held", "_law_due"] ["_law_script"] (defScope s_law) :=
  ⟨rfl, rfl, rfl, by decide +kernel, rfl, by decide +kernel, by decide +kernel⟩
structure Txt (K : PySem.W.Frag) (mg : Str → Option Value) where
  a_whole : Addr
  d_whole : FuncData
  F_whole : Fun K "whole" "whole" s_whole a_whole d_whole
  g_whole : mg "whole" = some (.ref a_whole)
  b_whole : Binds K d_whole ["value", "low", "high"] []
  a_tuple_of : Addr
  d_tuple_of : FuncData
  F_tuple_of : Fun K "tuple_of" "tuple_of" s_tuple_of a_tuple_of d_tuple_of
  g_tuple_of : mg "tuple_of" = some (.ref a_tuple_of)
  b_tuple_of : Binds K d_tuple_of ["value", "many"] []
  a_changes_of : Addr
  d_changes_of : FuncData
  F_changes_of : Fun K "changes_of" "changes_of" s_changes_of a_changes_of d_changes_of
  g_changes_of : mg "changes_of" = some (.ref a_changes_of)
  b_changes_of : Binds K d_changes_of ["course"] []
  c_changes_of : Addr
  p_changes_of : Addr
  h_changes_of : d_changes_of.code = .ref c_changes_of
  a_is_course : Addr
  d_is_course : FuncData
  F_is_course : Fun K "is_course" "is_course" s_is_course a_is_course d_is_course
  g_is_course : mg "is_course" = some (.ref a_is_course)
  b_is_course : Binds K d_is_course ["house", "value"] []
  a_heads_back : Addr
  d_heads_back : FuncData
  F_heads_back : Fun K "heads_back" "heads_back" s_heads_back a_heads_back d_heads_back
  g_heads_back : mg "heads_back" = some (.ref a_heads_back)
  b_heads_back : Binds K d_heads_back ["house", "course", "moment"] []
  c_heads_back : Addr
  p_heads_back : Addr
  h_heads_back : d_heads_back.code = .ref c_heads_back
  a_named_by : Addr
  d_named_by : FuncData
  F_named_by : Fun K "named_by" "named_by" s_named_by a_named_by d_named_by
  g_named_by : mg "named_by" = some (.ref a_named_by)
  b_named_by : Binds K d_named_by ["heads", "server"] []
  a_asks : Addr
  d_asks : FuncData
  F_asks : Fun K "asks" "asks" s_asks a_asks d_asks
  g_asks : mg "asks" = some (.ref a_asks)
  b_asks : Binds K d_asks ["house", "table", "asker"] []
  a_behind : Addr
  d_behind : FuncData
  F_behind : Fun K "behind" "behind" s_behind a_behind d_behind
  g_behind : mg "behind" = some (.ref a_behind)
  b_behind : Binds K d_behind ["house", "table", "asker", "name"] []
  a_tellings : Addr
  d_tellings : FuncData
  F_tellings : Fun K "tellings" "tellings" s_tellings a_tellings d_tellings
  g_tellings : mg "tellings" = some (.ref a_tellings)
  b_tellings : Binds K d_tellings ["heads", "server"] []
  c_tellings : Addr
  p_tellings : Addr
  h_tellings : d_tellings.code = .ref c_tellings
  a_is_telling : Addr
  d_is_telling : FuncData
  F_is_telling : Fun K "is_telling" "is_telling" s_is_telling a_is_telling d_is_telling
  g_is_telling : mg "is_telling" = some (.ref a_is_telling)
  b_is_telling : Binds K d_is_telling ["house", "value"] []
  a_is_play : Addr
  d_is_play : FuncData
  F_is_play : Fun K "is_play" "is_play" s_is_play a_is_play d_is_play
  g_is_play : mg "is_play" = some (.ref a_is_play)
  b_is_play : Binds K d_is_play ["house", "table", "course", "told"] []
  a_is_story : Addr
  d_is_story : FuncData
  F_is_story : Fun K "is_story" "is_story" s_is_story a_is_story d_is_story
  g_is_story : mg "is_story" = some (.ref a_is_story)
  b_is_story : Binds K d_is_story ["house", "table", "value"] []
  a_deck : Addr
  d_deck : FuncData
  F_deck : Fun K "_law_deck" "_law_deck" s_deck a_deck d_deck
  g_deck : mg "_law_deck" = some (.ref a_deck)
  b_deck : Binds K d_deck ["_law_script"] []
  a_draw : Addr
  d_draw : FuncData
  F_draw : Fun K "_law_draw" "_law_draw" s_draw a_draw d_draw
  g_draw : mg "_law_draw" = some (.ref a_draw)
  b_draw : Binds K d_draw ["_law_deck_here", "_law_many"] []
  a_one : Addr
  d_one : FuncData
  F_one : Fun K "_law_one" "_law_one" s_one a_one d_one
  g_one : mg "_law_one" = some (.ref a_one)
  b_one : Binds K d_one ["_law_deck_here", "_law_items"] []
  a_power : Addr
  d_power : FuncData
  F_power : Fun K "_law_power" "_law_power" s_power a_power d_power
  g_power : mg "_law_power" = some (.ref a_power)
  b_power : Binds K d_power ["_law_servers", "_law_lag"] []
  a_house : Addr
  d_house : FuncData
  F_house : Fun K "_law_house" "_law_house" s_house a_house d_house
  g_house : mg "_law_house" = some (.ref a_house)
  b_house : Binds K d_house ["_law_deck_here", "_law_room"] []
  a_rest_kept : Addr
  d_rest_kept : FuncData
  F_rest_kept : Fun K "_law_rest_kept" "_law_rest_kept" s_rest_kept a_rest_kept d_rest_kept
  g_rest_kept : mg "_law_rest_kept" = some (.ref a_rest_kept)
  b_rest_kept : Binds K d_rest_kept ["_law_course_here", "_law_rest"] []
  a_course : Addr
  d_course : FuncData
  F_course : Fun K "_law_course" "_law_course" s_course a_course d_course
  g_course : mg "_law_course" = some (.ref a_course)
  b_course : Binds K d_course ["_law_deck_here", "_law_house_here", "_law_many"] []
  a_names : Addr
  d_names : FuncData
  F_names : Fun K "_law_names" "_law_names" s_names a_names d_names
  g_names : mg "_law_names" = some (.ref a_names)
  b_names : Binds K d_names ["_law_house_here", "_law_course_here", "_law_moment", "_law_server"] []
  a_table : Addr
  d_table : FuncData
  F_table : Fun K "_law_table" "_law_table" s_table a_table d_table
  g_table : mg "_law_table" = some (.ref a_table)
  b_table : Binds K d_table ["_law_deck_here", "_law_room"] []
  a_asked : Addr
  d_asked : FuncData
  F_asked : Fun K "_law_asked" "_law_asked" s_asked a_asked d_asked
  g_asked : mg "_law_asked" = some (.ref a_asked)
  b_asked : Binds K d_asked ["_law_house_here", "_law_table_here", "_law_asker"] []
  a_later : Addr
  d_later : FuncData
  F_later : Fun K "_law_later" "_law_later" s_later a_later d_later
  g_later : mg "_law_later" = some (.ref a_later)
  b_later : Binds K d_later ["_law_house_here", "_law_table_here", "_law_asker", "_law_name"] []
  a_play : Addr
  d_play : FuncData
  F_play : Fun K "_law_play" "_law_play" s_play a_play d_play
  g_play : mg "_law_play" = some (.ref a_play)
  b_play : Binds K d_play ["_law_deck_here", "_law_house_here", "_law_table_here", "_law_course_here"] []
  a_odd : Addr
  d_odd : FuncData
  F_odd : Fun K "_law_odd" "_law_odd" s_odd a_odd d_odd
  g_odd : mg "_law_odd" = some (.ref a_odd)
  b_odd : Binds K d_odd ["_law_deck_here"] []
  a_bent : Addr
  d_bent : FuncData
  F_bent : Fun K "_law_bent" "_law_bent" s_bent a_bent d_bent
  g_bent : mg "_law_bent" = some (.ref a_bent)
  b_bent : Binds K d_bent ["_law_deck_here", "_law_thing", "_law_deep"] []
  a_both : Addr
  d_both : FuncData
  F_both : Fun K "_law_both" "_law_both" s_both a_both d_both
  g_both : mg "_law_both" = some (.ref a_both)
  b_both : Binds K d_both ["_law_deck_here", "_law_room"] []
  a_is_int : Addr
  d_is_int : FuncData
  F_is_int : Fun K "_law_is_int" "_law_is_int" s_is_int a_is_int d_is_int
  g_is_int : mg "_law_is_int" = some (.ref a_is_int)
  b_is_int : Binds K d_is_int ["_law_value", "_law_low", "_law_high"] []
  a_l_is_course : Addr
  d_l_is_course : FuncData
  F_l_is_course : Fun K "_law_is_course" "_law_is_course" s_l_is_course a_l_is_course d_l_is_course
  g_l_is_course : mg "_law_is_course" = some (.ref a_l_is_course)
  b_l_is_course : Binds K d_l_is_course ["_law_house_here", "_law_value"] []
  a_is_pair : Addr
  d_is_pair : FuncData
  F_is_pair : Fun K "_law_is_pair" "_law_is_pair" s_is_pair a_is_pair d_is_pair
  g_is_pair : mg "_law_is_pair" = some (.ref a_is_pair)
  b_is_pair : Binds K d_is_pair ["_law_house_here", "_law_value"] []
  a_l_is_story : Addr
  d_l_is_story : FuncData
  F_l_is_story : Fun K "_law_is_story" "_law_is_story" s_l_is_story a_l_is_story d_l_is_story
  g_l_is_story : mg "_law_is_story" = some (.ref a_l_is_story)
  b_l_is_story : Binds K d_l_is_story ["_law_house_here", "_law_table_here", "_law_value"] []
  a_otherwise : Addr
  d_otherwise : FuncData
  F_otherwise : Fun K "_law_otherwise" "_law_otherwise" s_otherwise a_otherwise d_otherwise
  g_otherwise : mg "_law_otherwise" = some (.ref a_otherwise)
  b_otherwise : Binds K d_otherwise ["_law_deck_here", "_law_house_here", "_law_story"] []
  a_NEW_ASKER : Addr
  g_NEW_ASKER : mg "NEW_ASKER" = some (.ref a_NEW_ASKER)
  q_NEW_ASKER : SqT K (fun _ => none) a_NEW_ASKER [.int (0), .int (0), .int (-1)]
  a_NONE_ASKED : Addr
  g_NONE_ASKED : mg "NONE_ASKED" = some (.ref a_NONE_ASKED)
  q_NONE_ASKED : SqT K (fun _ => none) a_NONE_ASKED [.int (-1), .int (-1)]
  m_abs : mg "abs" = none
  m_all : mg "all" = none
  m_bool : mg "bool" = none
  m_enumerate : mg "enumerate" = none
  m_int : mg "int" = none
  m_isinstance : mg "isinstance" = none
  m_len : mg "len" = none
  m_list : mg "list" = none
  m_max : mg "max" = none
  m_min : mg "min" = none
  m_range : mg "range" = none
  m_repr : mg "repr" = none
  m_set : mg "set" = none
  m_sorted : mg "sorted" = none
  m_tuple : mg "tuple" = none
  m_zip : mg "zip" = none
def Txt.tabs {K : PySem.W.Frag} {mg : Str → Option Value} (T : Txt K mg) : List (Addr × Addr) := [(T.c_changes_of, T.p_changes_of), (T.c_heads_back, T.p_heads_back), (T.c_tellings, T.p_tellings)]
/-! ### the deck of a script: a list of four, its cells a list of their own -/
/-- the deck at p, n numbers have been drawn -/
def Deck (K : PySem.W.Frag) (H : Hp) (p : Addr) (n : Nat) : Prop :=
  ∃ (l : Addr) (ns : List Int) (c r : Int), H p = some (.lst [.ref l, .int c, .int r, .int (n : Int)]) ∧ l ≠ p ∧ SqL K H l (ns.map V.int) ∧ ns.length ≤ 63 ∧ 0 ≤ c ∧ 0 ≤ r
theorem Deck.ne_new {K : PySem.W.Frag} {H : Hp} {p q : Addr} {n : Nat} (D : Deck K H p n) (h : H q = none) : q ≠ p := by
  obtain ⟨l, ns, c, r, hp, _⟩ := D
  exact (ne_of_none hp h).symm
theorem Deck.ne_tup {K : PySem.W.Frag} {H : Hp} {p t : Addr} {n : Nat} {xs : List V} (D : Deck K H p n) (h : H t = some (.tup xs)) : t ≠ p := by
  obtain ⟨l, ns, c, r, hp, _⟩ := D
  exact ne_of h hp (by intro z; cases z)
theorem Deck.put {K : PySem.W.Frag} {H : Hp} {p q : Addr} {n : Nat} {o : HO} (D : Deck K H p n) (h : H q = none) : Deck K (upd H q o) p n := by
  have nq := D.ne_new h
  obtain ⟨l, ns, c, r, hp, lp, hl, z⟩ := D
  exact ⟨l, ns, c, r, by rw [upd_ne nq.symm]; exact hp, lp, (Keep.new h).seq lp hl, z⟩
/-- an object that was new at a time when the deck stood is changed later -/
theorem Deck.write {K : PySem.W.Frag} {G H : Hp} {p q : Addr} {m n : Nat} {o : HO} (A : Deck K G p m) (h : G q = none) (k : Keep p G H) (D : Deck K H p n) : Deck K (upd H q o) p n := by
  have nq := A.ne_new h
  obtain ⟨l, ns, c, r, gp, lp, gl, g63, _⟩ := A
  obtain ⟨l', ns', c', r', hp, lp', hl, h63, hc, hr⟩ := D
  obtain ⟨z, hz⟩ := k.h l _ gp
  have e : l' = l := by
    rw [hp] at hz
    injection hz with hz
    injection hz with hz
    injection hz with hz _
    injection hz
  subst e
  have hp' : upd H q o p = some (.lst [.ref l', .int c', .int r', .int (n : Int)]) := by
    rw [upd_ne nq.symm]
    exact hp
  rcases gl with gl | gl
  · have lq : l' ≠ q := by
      rcases gl with gl | ⟨_, gl⟩
      · exact ne_of_none gl h
      · exact ne_of_none gl h
    refine ⟨l', ns', c', r', hp', lp, ?_, h63, hc, hr⟩
    rcases hl with (hl | ⟨u, hl⟩) | hl
    · exact Or.inl (Or.inl (by rw [upd_ne lq]; exact hl))
    · exact Or.inl (Or.inr ⟨u, by rw [upd_ne lq]; exact hl⟩)
    · exact Or.inr hl
  · exact ⟨l', ns, c', r', hp', lp, Or.inr gl, g63, hc, hr⟩
theorem ints_dp {K : PySem.W.Frag} {H : Hp} : ∀ ns : List Int, DpAll K H (ns.map V.int) (ns.map PyData.int)
  | [] => .nil
  | n :: ns => .cons (.int n) (ints_dp ns)
theorem ints_lay : ∀ ns : List Int, PyData.canLayAll0 (ns.map PyData.int) = true
  | [] => by simp only [List.map_nil, PyData.canLayAll0]
  | n :: ns => by simp only [List.map_cons, PyData.canLayAll0, PyData.canLay0, ints_lay ns, Bool.and_self]
theorem ints_deep : ∀ ns : List Int, PyData.depthAll (ns.map PyData.int) = 0
  | [] => by simp only [List.map_nil, PyData.depthAll]
  | n :: ns => by simp only [List.map_cons, PyData.depthAll, PyData.depth, ints_deep ns, Nat.max_self]
theorem ints_shaped (ns : List Int) : SeqAt.shaped (.list (ns.map PyData.int)) = true := by
  unfold SeqAt.shaped
  simp only [PyData.canLay0, PyData.depth, ints_lay, ints_deep, Bool.true_and, decide_eq_true_eq]
  decide
theorem ints_nil (ns : List Int) : PyData.eqv (.list (ns.map PyData.int)) (.list []) = ns.isEmpty := by
  cases ns <;> simp [PyData.eqv, PyData.eqvAll]
theorem int_at (ns : List Int) (i : Int) (h0 : 0 ≤ i) (h1 : i < (ns.length : Int)) : ∃ z, atI (ns.map V.int) i = some (.int z) := by
  obtain ⟨j, rfl⟩ : ∃ j : Nat, i = (j : Int) := ⟨i.toNat, (Int.toNat_of_nonneg h0).symm⟩
  have hj : j < ns.length := by omega
  refine ⟨ns[j], atI_nat ?_⟩
  rw [List.getElem?_map, List.getElem?_eq_getElem hj]
  rfl
theorem fmod_lo {a m : Int} (h : 0 < m) : 0 ≤ a.fmod m := Int.fmod_nonneg_of_pos _ h
theorem fmod_hi {a m : Int} (h : 0 < m) : a.fmod m < m := Int.fmod_lt_of_pos _ h
theorem fdiv_lo {a m : Int} (h : 0 ≤ a) (hm : 0 < m) : 0 ≤ a.fdiv m := by
  rw [Int.fdiv_eq_ediv_of_nonneg _ (Int.le_of_lt hm)]
  exact Int.ediv_nonneg h (Int.le_of_lt hm)
theorem rIx_of {K : PySem.W.Frag} {H : Hp} {p : Addr} {xs : List V} {i : Int} {v : V} {Q : VK} (h : SqA K H p xs) (he : atI xs i = some v) (q : Q v H) : rIx K (.ref p) (.int i) H Q := by
  rcases h with h | h
  · exact Or.inl ⟨p, xs, i, v, rfl, rfl, h, he, q⟩
  · exact Or.inr (Or.inl ⟨p, xs, i, v, rfl, rfl, h, he, q⟩)
def sp_draw (K : PySem.W.Frag) : Sp := fun vs H Q _ => ∃ (p : Addr) (m : Int) (n : Nat), vs = [.ref p, .int m] ∧ 0 < m ∧ m < 100000 ∧ Deck K H p n ∧ n < 1000000 ∧
  ∀ (r : Int) (J : Hp), 0 ≤ r → r < m → Deck K J p (n + 1) → Keep p H J → Q (.int r) J
def sp_one (K : PySem.W.Frag) : Sp := fun vs H Q _ => ∃ (p a : Addr) (xs : List V) (n : Nat), vs = [.ref p, .ref a] ∧ SqL K H a xs ∧ a ≠ p ∧ 0 < xs.length ∧ xs.length < 100000 ∧ Deck K H p n ∧ n < 1000000 ∧
  ∀ (i : Nat) (x : V) (J : Hp), xs[i]? = some x → Deck K J p (n + 1) → Keep p H J → Q x J
section
variable {P : Program} {w : World} {K : PySem.W.Frag} {mg : Str → Option Value} {base : Heap}
theorem ok_draw (T : Txt K mg) : FnOk P w K mg base CX0 1 T.a_draw T.d_draw ["_law_deck_here", "_law_many"] (sp_draw K) := by
  refine T.F_draw.ok sc_draw (fun vs H Q E h => ?_) (fun cdv A outer s H vs Q E hr h => ?_)
  · obtain ⟨p, m, n, rfl, _⟩ := h
    rfl
  · obtain ⟨p, m, n, rfl, m0, m1, ⟨l, ns, c, r, hp, lp, hl, h63, c0, r0⟩, hn, k⟩ := h
    have mne : m ≠ 0 := by omega
    have md : CDivN r m := ⟨mne, by omega⟩
    refine ⟨_, (pss_cons (ps_asg (pe_op op_add (pe_ix ix_list (pv 0) pe_int (fun _ _ => rfl)) pe_int) (pg_sub (pv 0) pe_int set_list))
      (pss_cons (ps_if (pt_cmpR op_gt (pe_ix ix_list (pv 0) pe_int (fun _ _ => rfl)) pe_int (nomark _))
        (pss_cons (ps_set (i := 2) sc_draw.nd rfl (Or.inl rfl) (pe_op op_modN (pe_callTy (T := "int") call_int1 (by rfl) T.m_int (by decide +kernel) (pa_cons (pe_ix ix_list (pv 0) pe_int (fun _ _ => rfl)) pa_nil)) (pv 1)))
      (pss_cons (ps_asg (pe_op op_fdivN (pe_ix ix_list (pv 0) pe_int (fun _ _ => rfl)) (pv 1)) (pg_sub (pv 0) pe_int set_list))
      (pss_one (ps_ret (pv 2)))))
        pss_nil)
      (pss_cons (ps_set (i := 3) sc_draw.nd rfl (Or.inl rfl) pe_int)
      (Evl.pss_cut (ps_if (pt_cmpR (op_neD hr.units) (pe_ix ix_list (pv 0) pe_int (fun _ _ => rfl)) (pe_lst pa_nil) (nomark _))
        (pss_one (ps_set (i := 3) sc_draw.nd rfl (Or.inl rfl) (pe_ix ix_list (pe_ix ix_list (pv 0) pe_int (fun _ _ => rfl)) (pe_op op_modN (pe_callTy (T := "int") call_int1 (by rfl) T.m_int (by decide +kernel) (pa_cons (pe_ix ix_list (pv 0) pe_int (fun _ _ => rfl)) pa_nil)) (pe_callB (id := "len") call_len_seq (by rfl) T.m_len (by decide +kernel) (pa_cons (pe_ix ix_list (pv 0) pe_int (fun _ _ => rfl)) pa_nil))) (fun _ _ => rfl))))
        pss_nil)
      (pss_cons (ps_asg (pe_op op_add (pe_ix ix_list (pv 0) pe_int (fun _ _ => rfl)) pe_int) (pg_sub (pv 0) pe_int set_list))
      (Evl.pss_cut (ps_if (PW.pt (pw_and (pt_cmpR op_ge (pe_callB (id := "abs") call_abs (by rfl) T.m_abs (by decide +kernel) (pa_cons (pv 3) pa_nil)) (pe_op op_pow pe_int pe_int) (nomark _)) (pw_and1 (pt_cmpR op_le (pe_ix ix_list (pv 0) pe_int (fun _ _ => rfl)) (pe_callB (id := "len") call_len_seq (by rfl) T.m_len (by decide +kernel) (pa_cons (pe_ix ix_list (pv 0) pe_int (fun _ _ => rfl)) pa_nil)) (nomark _)))))
        (pss_cons (ps_asg (pe_op op_fdivN (pe_callB (id := "abs") call_abs (by rfl) T.m_abs (by decide +kernel) (pa_cons (pv 3) pa_nil)) (pv 1)) (pg_sub (pv 0) pe_int set_list))
      (pss_one (ps_ret (pe_op op_modN (pe_callTy (T := "int") call_int1 (by rfl) T.m_int (by decide +kernel) (pa_cons (pe_callB (id := "abs") call_abs (by rfl) T.m_abs (by decide +kernel) (pa_cons (pv 3) pa_nil)) pa_nil)) (pv 1)))))
        pss_nil)
      (pss_cons (ps_set (i := 4) sc_draw.nd rfl (Or.inl rfl) (pe_op op_modN (pe_op op_pow (pe_callTy (T := "int") call_int1 (by rfl) T.m_int (by decide +kernel) (pa_cons (pe_op op_add (pe_op op_modN (pe_callTy (T := "int") call_int1 (by rfl) T.m_int (by decide +kernel) (pa_cons (pv 3) pa_nil)) pe_int) (pe_op op_mul pe_int (pe_ix ix_list (pv 0) pe_int (fun _ _ => rfl)))) pa_nil)) pe_int) pe_int))
      (pss_cons (ps_set (i := 4) sc_draw.nd rfl (Or.inl rfl) (pe_op op_modN (pe_op op_pow (pe_callTy (T := "int") call_int1 (by rfl) T.m_int (by decide +kernel) (pa_cons (pe_op op_add (pe_op op_mul (pv 4) (pe_op op_add (pe_op op_mul pe_int (pe_ix ix_list (pv 0) pe_int (fun _ _ => rfl))) pe_int)) pe_int) pa_nil)) pe_int) pe_int))
      (pss_one (ps_ret (pe_op op_modN (pe_op op_fdivN (pv 4) pe_int) (pv 1)))))))))))), ?_⟩
    -- the number of draws
    refine ⟨_, rfl, p, _, 3, _, rfl, rfl, SqL.of hp, rfl, _, _, rfl, rfl, _, rfl, p, _, 3, 3, rfl, rfl, hp, rfl, ?_⟩
    have en : ((n : Int) + 1) = ((n + 1 : Nat) : Int) := by omega
    have h1 : upd H p (.lst [.ref l, .int c, .int r, .int ((n : Int) + 1)]) p = some (.lst [.ref l, .int c, .int r, .int ((n : Int) + 1)]) := upd_same
    have K1 : Keep p H (upd H p (.lst [.ref l, .int c, .int r, .int ((n : Int) + 1)])) := Keep.put hp
    have l1 := K1.seq lp hl
    refine ⟨_, rfl, p, _, 2, _, rfl, rfl, SqL.of h1, rfl, _, _, rfl, rfl, _, rfl, ite2 (fun hpos => ?_) (fun _ => ?_)⟩
    · refine ⟨_, rfl, p, _, 2, _, rfl, rfl, SqL.of h1, rfl, .inl ⟨_, rfl, _, rfl, _, _, rfl, rfl, mne, ?_⟩⟩
      refine ⟨_, rfl, p, _, 2, _, rfl, rfl, SqL.of h1, rfl, _, rfl, _, _, rfl, rfl, md, _, rfl, p, _, 2, 2, rfl, rfl, h1, rfl, ?_⟩
      refine ⟨_, rfl, k _ _ (fmod_lo m0) (fmod_hi m0) ?_ (K1.trans (Keep.put h1))⟩
      exact ⟨l, ns, c, r.fdiv m, by rw [upd_same, ← en]; rfl, lp, (K1.trans (Keep.put h1)).seq lp hl, h63, c0, fdiv_lo r0 m0⟩
    · -- the cell: 67, or one of the script's
      let H1 := upd H p (.lst [.ref l, .int c, .int r, .int ((n : Int) + 1)])
      refine ⟨fun σ' H2 => ∃ z : Int, σ' = [some (.ref p), some (.int m), none, some (.int z), none] ∧ Same H1 H2, ?_, ?_⟩
      · refine ⟨_, rfl, p, _, 0, _, rfl, rfl, SqL.of h1, rfl, Nat.zero_le _, fun q hq => ?_⟩
        have s2 : Same H1 (upd H1 q (.lst [])) := fun b o e => by
          rw [upd_ne (ne_of_none e hq)]
          exact e
        have h2 := s2 _ _ h1
        refine ⟨.list (ns.map PyData.int), .list [], .lst (s2.seq l1) (ints_dp ns), .lst (SqL.of upd_same) .nil, ints_shaped ns, by decide, _, rfl, ?_⟩
        rw [ints_nil]
        cases ns with
        | nil => exact ⟨67, rfl, s2⟩
        | cons y ys =>
          refine iteT ?_
          have len0 : (((y :: ys).length : Nat) : Int) ≠ 0 := by rw [List.length_cons]; omega
          have lenp : (0 : Int) < (((y :: ys).length : Nat) : Int) := by rw [List.length_cons]; omega
          have e2 : (((y :: ys).map V.int).length : Int) = (((y :: ys).length : Nat) : Int) := by rw [List.length_map]
          obtain ⟨z, hz⟩ := int_at (y :: ys) (c.fmod (((y :: ys).length : Nat) : Int)) (fmod_lo lenp) (fmod_hi lenp)
          refine ⟨_, rfl, p, _, 0, _, rfl, rfl, SqL.of h2, rfl, _, rfl, p, _, 1, _, rfl, rfl, SqL.of h2, rfl, .inl ⟨_, rfl, _, rfl, p, _, 0, _, rfl, rfl, SqL.of h2, rfl, l, _, rfl, .inl (s2.seq l1), c, _, rfl, rfl, by rw [e2]; exact len0, ?_⟩⟩
          rw [e2]
          exact ⟨l, _, _, _, rfl, rfl, s2.seq l1, hz, z, rfl, s2⟩
      · rintro σ' H2 ⟨z, rfl, s2⟩
        have h2 := s2 _ _ h1
        have K2 : Keep p H H2 := K1.trans (Keep.of_same s2)
        -- one cell more has been read
        refine ⟨_, rfl, p, _, 1, _, rfl, rfl, SqL.of h2, rfl, _, _, rfl, rfl, _, rfl, p, _, 1, 1, rfl, rfl, h2, rfl, ?_⟩
        have K3 : Keep p H (upd H2 p (.lst [.ref l, .int (c + 1), .int r, .int ((n : Int) + 1)])) := K2.trans (Keep.put h2)
        have h3 : upd H2 p (.lst [.ref l, .int (c + 1), .int r, .int ((n : Int) + 1)]) p = some (.lst [.ref l, .int (c + 1), .int r, .int ((n : Int) + 1)]) := upd_same
        have l3 := K3.seq lp hl
        have D3 : Deck K (upd H2 p (.lst [.ref l, .int (c + 1), .int r, .int ((n : Int) + 1)])) p (n + 1) := ⟨l, ns, c + 1, r, by rw [h3, en], lp, l3, h63, by omega, r0⟩
        refine ⟨fun σ' H' => σ' = [some (.ref p), some (.int m), none, some (.int z), none] ∧ H' = upd H2 p (.lst [.ref l, .int (c + 1), .int r, .int ((n : Int) + 1)]), ?_, ?_⟩
        · refine ⟨_, rfl, _, rfl, 10, 18, rfl, rfl, ⟨by decide, by decide, by decide⟩, _, _, rfl, rfl, _, rfl, ?_⟩
          refine ite2 (fun _ => ?_) (fun _ => iteF ⟨rfl, rfl⟩)
          refine ⟨_, rfl, p, _, 1, _, rfl, rfl, SqL.of h3, rfl, _, rfl, p, _, 0, _, rfl, rfl, SqL.of h3, rfl, l, _, rfl, .inl l3, _, _, rfl, rfl, _, rfl, ?_⟩
          refine ite2 (fun _ => ?_) (fun _ => ⟨rfl, rfl⟩)
          have az : 0 ≤ (if z < 0 then -z else z) := by split <;> omega
          refine ⟨_, rfl, _, rfl, _, rfl, _, _, rfl, rfl, ⟨mne, by omega⟩, _, rfl, p, _, 2, 2, rfl, rfl, h3, rfl, ?_⟩
          refine ⟨_, rfl, _, rfl, .inl ⟨_, rfl, _, rfl, _, _, rfl, rfl, mne, ?_⟩⟩
          refine k _ _ (fmod_lo m0) (fmod_hi m0) ?_ (K3.trans (Keep.put h3))
          exact ⟨l, ns, c + 1, (if z < 0 then -z else z).fdiv m, by rw [upd_same, ← en]; rfl, lp, (K3.trans (Keep.put h3)).seq lp hl, h63, by omega, fdiv_lo az m0⟩
        · rintro σ' H' ⟨rfl, rfl⟩
          -- otherwise mixed
          have a0 : 0 ≤ z.fmod 2147483629 := fmod_lo (by decide)
          have a1 : z.fmod 2147483629 < 2147483629 := fmod_hi (by decide)
          refine ⟨_, rfl, .inl ⟨_, rfl, _, _, rfl, rfl, (by show (2147483629 : Int) ≠ 0; decide), _, rfl, p, _, 3, _, rfl, rfl, SqL.of h3, rfl, _, _, rfl, rfl, .inl ⟨by show -(2 ^ 64) < (67867967 : Int); decide, by show (67867967 : Int) < 2 ^ 64; decide⟩, _, _, rfl, rfl, ?_⟩⟩
          refine .inl ⟨_, rfl, _, _, rfl, rfl, ⟨by show (0 : Int) ≤ 5; decide, by show (5 : Int) ≤ 1000000; decide, by omega⟩, _, _, rfl, rfl, (by show (2147483647 : Int) ≠ 0; decide), ?_⟩
          generalize ((z.fmod 2147483629 + 67867967 * ((n : Int) + 1)) ^ (5 : Int).toNat) = big
          have b0 : 0 ≤ big.fmod 2147483647 := fmod_lo (by decide)
          have b1 : big.fmod 2147483647 < 2147483647 := fmod_hi (by decide)
          obtain ⟨mix, hm⟩ : ∃ mix, mix = big.fmod 2147483647 := ⟨_, rfl⟩
          rw [← hm] at b0 b1
          have c1 : mix * (2 * ((n : Int) + 1) + 3) ≤ 2147483647 * 3000000 := Int.mul_le_mul (by omega) (by omega) (by omega) (by decide)
          have c2 : 0 ≤ mix * (2 * ((n : Int) + 1) + 3) := Int.mul_nonneg b0 (by omega)
          have c3 : (mix * (2 * ((n : Int) + 1) + 3) + 5323).natAbs < 2 ^ 64 := by omega
          have c4 : -(2 ^ 64) < mix ∧ mix < 2 ^ 64 := ⟨by omega, by omega⟩
          rw [hm] at c3 c4
          refine ⟨_, rfl, _, rfl, p, _, 3, _, rfl, rfl, SqL.of h3, rfl, _, _, rfl, rfl, .inl ⟨by show -(2 ^ 64) < (2 : Int); decide, by show (2 : Int) < 2 ^ 64; decide⟩, _, _, rfl, rfl, _, _, rfl, rfl, .inl c4, _, _, rfl, rfl, ?_⟩
          refine .inl ⟨_, rfl, _, _, rfl, rfl, ⟨by show (0 : Int) ≤ 3; decide, by show (3 : Int) ≤ 1000000; decide, c3⟩, _, _, rfl, rfl, (by show (2147483587 : Int) ≠ 0; decide), ?_⟩
          refine ⟨_, rfl, _, _, rfl, rfl, ⟨by show (64 : Int) ≠ 0; decide, by show (64 : Int).natAbs < 1073741824; decide⟩, _, rfl, _, _, rfl, rfl, mne, ?_⟩
          exact k _ _ (fmod_lo m0) (fmod_hi m0) D3 K3
theorem ok_one (T : Txt K mg) : FnOk P w K mg base CX0 2 T.a_one T.d_one ["_law_deck_here", "_law_items"] (sp_one K) := by
  have G_draw : FnOk P w K mg base CX0 1 T.a_draw T.d_draw ["_law_deck_here", "_law_many"] (sp_draw K) := ok_draw T
  refine T.F_one.ok sc_one (fun vs H Q E h => ?_) (fun cdv A outer s H vs Q E hr h => ?_)
  · obtain ⟨p, a, xs, n, rfl, _⟩ := h
    rfl
  · obtain ⟨p, a, xs, n, rfl, hx, ap, x0, x1, D, hn, k⟩ := h
    refine ⟨_, (pss_one (ps_ret (pe_ix ix_seq (pv 1) (pe_call G_draw (hr.mono (by omega)) (by rfl) T.g_draw T.F_draw.kp T.b_draw .nil pass0 (pa_cons (pv 0) (pa_cons (pe_callB (id := "len") call_len_seq (by rfl) T.m_len (by decide +kernel) (pa_cons (pv 1) pa_nil)) pa_nil))) (fun _ _ => rfl)))), ?_⟩
    refine ⟨_, rfl, _, rfl, _, rfl, a, xs, rfl, .inl hx, p, (xs.length : Int), n, rfl, by omega, by omega, D, hn, fun r J r0 r1 DJ KJ => ?_⟩
    obtain ⟨i, rfl⟩ : ∃ i : Nat, r = (i : Int) := ⟨r.toNat, (Int.toNat_of_nonneg r0).symm⟩
    have hi : i < xs.length := by omega
    refine rIx_of (.inl (KJ.seq ap hx)) (atI_nat (List.getElem?_eq_getElem hi)) ?_
    exact k i _ J (List.getElem?_eq_getElem hi) DJ KJ
end

/-! ### the deck made -/
theorem same_new {q : Addr} {H : Hp} {o : HO} (h : H q = none) : Same H (upd H q o) := fun b u e => by
  rw [upd_ne (ne_of_none e h)]
  exact e
theorem Deck.of_same {K : PySem.W.Frag} {H J : Hp} {p : Addr} {n : Nat} (D : Deck K H p n) (e : Same H J) : Deck K J p n := by
  obtain ⟨l, ns, c, r, hp, lp, hl, z⟩ := D
  exact ⟨l, ns, c, r, e _ _ hp, lp, e.seq hl, z⟩
theorem Keep.free {p q : Addr} {H J : Hp} (k : Keep p H J) (n : q ≠ p) (h : J q = none) : H q = none := by
  cases e : H q with
  | none => rfl
  | some o =>
    cases o with
    | tbl x =>
      obtain ⟨x', e', _⟩ := k.t q x e
      rw [e'] at h
      cases h
    | _ =>
      rw [k.at n e] at h
      cases h
def sp_deck (K : PySem.W.Frag) : Sp := fun vs H Q _ => ∃ (a : Addr) (ns : List Int), vs = [.ref a] ∧ SqL K H a (ns.map V.int) ∧ ns.length ≤ 63 ∧
  ∀ (p : Addr) (J : Hp), Deck K J p 0 → Same H J → H p = none → Q (.ref p) J
theorem cut63 (xs : List V) (h : xs.length ≤ 63) : cutV xs none (some 63) = xs := by
  unfold cutV
  rw [HT.sIx_none, show HT.sIx xs.length xs.length (some 63) = min 63 xs.length from HT.sIx_nat xs.length xs.length 63]
  rw [List.drop_zero, Nat.sub_zero, List.take_of_length_le (by omega)]
section
variable {P : Program} {w : World} {K : PySem.W.Frag} {mg : Str → Option Value} {base : Heap}
theorem ok_deck (T : Txt K mg) : FnOk P w K mg base CX0 1 T.a_deck T.d_deck ["_law_script"] (sp_deck K) := by
  refine T.F_deck.ok sc_deck (fun vs H Q E h => ?_) (fun cdv A outer s H vs Q E hr h => ?_)
  · obtain ⟨a, ns, rfl, _⟩ := h
    rfl
  · obtain ⟨a, ns, rfl, hl, h63, k⟩ := h
    refine ⟨_, (pss_one (ps_ret (pe_lst (pa_cons (pe_callTy (T := "list") call_list_of (by rfl) T.m_list (by decide +kernel) (pa_cons (pe_slice sl_list (pv 0) po_none (po_some pe_int)) pa_nil)) (pa_cons pe_int (pa_cons pe_int (pa_cons pe_int pa_nil))))))), ?_⟩
    refine ⟨_, rfl, 63, rfl, a, _, rfl, hl, fun c hc => ?_⟩
    have s1 : Same H (upd H c (.lst (cutV (ns.map V.int) none (some 63)))) := same_new hc
    refine ⟨c, _, rfl, .inl (SqL.of upd_same), fun l hl' => ?_⟩
    refine ⟨by show 4 ≤ sizeLine; decide, fun p hp => ?_⟩
    have s2 := s1.trans (same_new (o := .lst (cutV (ns.map V.int) none (some 63))) hl')
    have lp : l ≠ p := fun e => by
      rw [← e, upd_same] at hp
      cases hp
    refine k p _ ⟨l, ns, 0, 0, upd_same, lp, SqL.of ?_, h63, by decide, by decide⟩ (s2.trans (same_new hp)) (s2.free hp)
    rw [upd_ne lp, upd_same, cut63 _ (by rw [List.length_map]; exact h63)]
end

/-! ### powers, houses drawn -/
def HouseOf (room s r g : Int) : Prop := 2 ≤ s ∧ s ≤ 4 ∧ 1 ≤ r ∧ r ≤ 6 ∧ 0 ≤ g ∧ g ≤ 3 ∧ s ^ (g + 1).toNat ≤ room
def sp_power : Sp := fun vs H Q _ => ∃ (s g : Int), vs = [.int s, .int g] ∧ 0 ≤ s ∧ s ≤ 100 ∧ -1 ≤ g ∧ g ≤ 100 ∧ Q (.int (s ^ (g + 1).toNat)) H
def sp_house (K : PySem.W.Frag) : Sp := fun vs H Q _ => ∃ (p : Addr) (room : Int) (n : Nat), vs = [.ref p, .int room] ∧ 4 ≤ room ∧ Deck K H p n ∧ n < 900000 ∧
  ∀ (s r g : Int) (t : Addr) (J : Hp), HouseOf room s r g → J t = some (.tup [.int s, .int r, .int g]) → H t = none → Deck K J p (n + 4) → Keep p H J → Q (.ref t) J
section
variable {P : Program} {w : World} {K : PySem.W.Frag} {mg : Str → Option Value} {base : Heap}
theorem ok_power (T : Txt K mg) : FnOk P w K mg base CX0 1 T.a_power T.d_power ["_law_servers", "_law_lag"] sp_power := by
  refine T.F_power.ok sc_power (fun vs H Q E h => ?_) (fun cdv A outer s H vs Q E hr h => ?_)
  · obtain ⟨s, g, rfl, _⟩ := h
    rfl
  · obtain ⟨z, g, rfl, s0, s1, g0, g1, k⟩ := h
    refine ⟨_, (pss_cons (ps_set (i := 2) sc_power.nd rfl (Or.inl rfl) pe_int)
      (pss_cons (ps_for PassesOwn.never rfl (pi_range1 (by rfl) T.m_range (pa_cons (pe_op op_add (pv 1) pe_int) pa_nil)) (pg_name (i := 3) sc_power.nd rfl (Or.inl rfl))
        (pss_one (ps_set (i := 2) sc_power.nd rfl (Or.inl rfl) (pe_op op_mul (pv 2) (pv 0)))))
      (pss_one (ps_ret (pv 2))))), ?_⟩
    refine ⟨_, rfl, _, _, rfl, rfl, _, rfl, by omega, by omega, for_range (lo := 0) (n := (g + 1).toNat) (fun i σ H' => H' = H ∧ ∃ y, σ = [some (.int z), some (.int g), some (.int (z ^ i)), y]) ⟨rfl, none, by rw [Int.pow_zero]; rfl⟩ ?_ ?_⟩
    · rintro i σ H' hi ⟨rfl, y, rfl⟩
      refine ⟨_, rfl, _, rfl, _, _, rfl, rfl, .inr ⟨by omega, by omega⟩, rfl, some (.int (0 + (i : Int))), ?_⟩
      rw [Int.pow_succ]
      rfl
    · rintro σ H' ⟨rfl, y, rfl⟩
      exact ⟨_, rfl, k⟩
theorem ok_house (T : Txt K mg) : FnOk P w K mg base CX0 3 T.a_house T.d_house ["_law_deck_here", "_law_room"] (sp_house K) := by
  have G_draw : FnOk P w K mg base CX0 1 T.a_draw T.d_draw ["_law_deck_here", "_law_many"] (sp_draw K) := ok_draw T
  have G_one : FnOk P w K mg base CX0 2 T.a_one T.d_one ["_law_deck_here", "_law_items"] (sp_one K) := ok_one T
  have G_power : FnOk P w K mg base CX0 1 T.a_power T.d_power ["_law_servers", "_law_lag"] sp_power := ok_power T
  refine T.F_house.ok sc_house (fun vs H Q E h => ?_) (fun cdv A outer s H vs Q E hr h => ?_)
  · obtain ⟨p, room, n, rfl, _⟩ := h
    rfl
  · obtain ⟨p, room, n, rfl, r4, D, hn, k⟩ := h
    refine ⟨_, (pss_cons (ps_set (i := 2) sc_house.nd rfl (Or.inr rfl) (pe_call G_one (hr.mono (by omega)) (by rfl) T.g_one T.F_one.kp T.b_one .nil pass0 (pa_cons (pv 0) (pa_cons (pe_lst (pa_cons pe_int (pa_cons pe_int (pa_cons pe_int (pa_cons pe_int (pa_cons pe_int pa_nil)))))) pa_nil))))
      (pss_cons (ps_setLc (i := 3) (own := [("_law_lag", 4)]) (g := gName 4) (by rfl) sc_house.nd rfl rfl (sw_true rfl rfl rfl (by decide +kernel)) (pi_range1 (by rfl) T.m_range (pa_cons pe_int pa_nil)) (blkOk_by (own := [("_law_lag", 4)]) (N := ["_law_deck_here", "_law_room", "_law_servers", "_law_fits", "_law_lag"]) (sc := defScope s_house) (by decide +kernel)) (fun _ _ _ _ _ => (pg_name (i := 4) sc_house.nd rfl (Or.inl rfl))) (fun _ _ _ _ _ => (pts_one (pt_cmpR op_le (pe_call G_power (hr.mono (by omega)) (by rfl) T.g_power T.F_power.kp T.b_power .nil pass0 (pa_cons (pv 2) (pa_cons (pv 4) pa_nil))) (pv 1) (nomark _)))) (fun _ _ _ _ _ => (pv 4)))
      (pss_cons (ps_set (i := 4) sc_house.nd rfl (Or.inl rfl) (pe_call G_one (hr.mono (by omega)) (by rfl) T.g_one T.F_one.kp T.b_one .nil pass0 (pa_cons (pv 0) (pa_cons (pv 3) pa_nil))))
      (pss_one (ps_ret (pe_tup (pa_cons (pv 2) (pa_cons (pe_call G_one (hr.mono (by omega)) (by rfl) T.g_one T.F_one.kp T.b_one .nil pass0 (pa_cons (pv 0) (pa_cons (pe_lst (pa_cons pe_int (pa_cons pe_int (pa_cons pe_int (pa_cons pe_int (pa_cons pe_int (pa_cons (pe_op op_add pe_int (pe_call G_draw (hr.mono (by omega)) (by rfl) T.g_draw T.F_draw.kp T.b_draw .nil pass0 (pa_cons (pv 0) (pa_cons pe_int pa_nil)))) pa_nil))))))) pa_nil))) (pa_cons (pv 4) pa_nil))))))))), ?_⟩
    -- servers
    refine ⟨_, rfl, by show 5 ≤ sizeLine; decide, fun l hl => ?_⟩
    refine ⟨p, l, _, n, rfl, SqL.of upd_same, D.ne_new hl, by show 0 < 5; decide, by show 5 < 100000; decide, D.put hl, by omega, fun i x J hx DJ KJ => ?_⟩
    obtain ⟨z, rfl, z2, z4⟩ : ∃ z : Int, x = .int z ∧ 2 ≤ z ∧ z ≤ 4 := by
      have m := List.mem_of_getElem? hx
      simp only [List.mem_cons, List.not_mem_nil, or_false] at m
      rcases m with m | m | m | m | m <;> exact ⟨_, m, by decide, by decide⟩
    have K1 : Keep p H J := (Keep.new hl).trans KJ
    -- the lags that fit
    refine ⟨4, rfl, by show -(2 ^ 62) ≤ (4 : Int); decide, by show (4 : Int) < 2 ^ 62; decide, fun F hF => ?_⟩
    refine lc_range (lo := 0) (n := 4) (fun i H' => ∃ acc : List Int, H' = upd J F (.lst (acc.map V.int)) ∧ acc.length ≤ i ∧ (0 < i → acc ≠ []) ∧ ∀ y ∈ acc, 0 ≤ y ∧ y ≤ 3 ∧ z ^ (y + 1).toNat ≤ room)
      ⟨[], rfl, Nat.le_refl _, fun q => absurd q (by decide), fun y q => (List.not_mem_nil q).elim⟩ ?_ ?_
    · rintro i H' hi ⟨acc, rfl, al, an, ay⟩
      refine ⟨rfl, ?_⟩
      refine ⟨_, rfl, _, rfl, z, 0 + (i : Int), rfl, by omega, by omega, by omega, by omega, _, rfl, _, _, rfl, rfl, _, rfl, ?_⟩
      refine ite2 (fun e => ?_) (fun e => ?_)
      · have le := of_decide_eq_true e
        refine ⟨_, rfl, acc.map V.int, upd_same, small1000 (by rw [List.length_map]; omega), acc ++ [0 + (i : Int)], ?_, by rw [List.length_append, List.length_singleton]; omega, fun _ q => ?_, ?_⟩
        · rw [upd_upd, List.map_append]
          rfl
        · exact absurd (congrArg List.length q) (by rw [List.length_append, List.length_singleton, List.length_nil]; omega)
        · intro y hy
          rcases List.mem_append.mp hy with q | q
          · exact ay y q
          · rw [List.mem_singleton] at q
            rw [q]
            exact ⟨by omega, by omega, le⟩
      · refine ⟨acc, rfl, by omega, fun _ => ?_, ay⟩
        cases i with
        | zero =>
          refine absurd ?_ e
          refine decide_eq_true ?_
          have : z ^ (0 + ((0 : Nat) : Int) + 1).toNat = z := by
            show z ^ 1 = z
            rw [Int.pow_succ, Int.pow_zero, Int.one_mul]
          rw [this]
          omega
        | succ i => exact an (Nat.succ_pos i)
    · rintro H' ⟨acc, rfl, al, an, ay⟩
      have DF := DJ.put (o := .lst (acc.map V.int)) hF
      have K2 : Keep p H (upd J F (.lst (acc.map V.int))) := K1.trans (Keep.new hF)
      have a0 : 0 < acc.length := by
        cases acc with
        | nil => exact absurd rfl (an (by decide))
        | cons _ _ => exact Nat.succ_pos _
      -- the lag
      refine ⟨_, rfl, _, rfl, p, F, _, n + 1, rfl, SqL.of upd_same, DJ.ne_new hF, by rw [List.length_map]; exact a0, by rw [List.length_map]; omega, DF, by omega, fun j x J2 hx2 DJ2 KJ2 => ?_⟩
      obtain ⟨g, rfl, g0, g3, gr⟩ : ∃ g : Int, x = .int g ∧ 0 ≤ g ∧ g ≤ 3 ∧ z ^ (g + 1).toNat ≤ room := by
        have m := List.mem_of_getElem? hx2
        obtain ⟨y, hy, rfl⟩ := List.mem_map.mp m
        exact ⟨y, rfl, ay y hy⟩
      have K3 := K2.trans KJ2
      -- the rest
      refine ⟨_, rfl, _, rfl, _, rfl, p, 6, n + 2, rfl, by decide, by decide, DJ2, by omega, fun r J3 r0 r1 DJ3 KJ3 => ?_⟩
      have K4 := K3.trans KJ3
      refine ⟨_, _, rfl, rfl, by show 6 ≤ sizeLine; decide, fun l3 hl3 => ?_⟩
      refine ⟨p, l3, _, n + 3, rfl, SqL.of upd_same, DJ3.ne_new hl3, by show 0 < 6; decide, by show 6 < 100000; decide, DJ3.put hl3, by omega, fun j3 x3 J4 hx3 DJ4 KJ4 => ?_⟩
      obtain ⟨y, rfl, y1, y6⟩ : ∃ y : Int, x3 = .int y ∧ 1 ≤ y ∧ y ≤ 6 := by
        have m := List.mem_of_getElem? hx3
        simp only [List.mem_cons, List.not_mem_nil, or_false] at m
        rcases m with m | m | m | m | m | m
        · exact ⟨_, m, by decide, by decide⟩
        · exact ⟨_, m, by decide, by decide⟩
        · exact ⟨_, m, by decide, by decide⟩
        · exact ⟨_, m, by decide, by decide⟩
        · exact ⟨_, m, by decide, by decide⟩
        · exact ⟨_, m, by omega, by omega⟩
      have K5 : Keep p H J4 := (K4.trans (Keep.new hl3)).trans KJ4
      refine ⟨_, rfl, by show 3 ≤ sizeLine; decide, fun t ht => ?_⟩
      exact k z y g t _ ⟨z2, z4, y1, y6, g0, g3, gr⟩ upd_same (K5.free (DJ4.ne_new ht) ht) (DJ4.put ht) (K5.trans (Keep.new ht))
end

/-! ### data behind the deck -/
/-- data behind the deck -/
abbrev Dt (K : PySem.W.Frag) (p : Addr) (H : Hp) (v : V) (d : PyData) : Prop := Dp K (off p H) v d
theorem Keep.dt {K : PySem.W.Frag} {p : Addr} {H J : Hp} {v : V} {d : PyData} (k : Keep p H J) (h : Dt K p H v d) : Dt K p J v d := dpSame k.s d v h
theorem Keep.all {K : PySem.W.Frag} {p : Addr} {H J : Hp} {vs : List V} {ds : List PyData} (k : Keep p H J) (h : DpAll K (off p H) vs ds) : DpAll K (off p J) vs ds := dpAllSame k.s ds vs h
theorem dt_tup {K : PySem.W.Frag} {p t : Addr} {H : Hp} {vs : List V} {ds : List PyData} (tp : t ≠ p) (ht : H t = none) (h : DpAll K (off p H) vs ds) : Dt K p (upd H t (.tup vs)) (.ref t) (.tuple ds) :=
  .tup (SqT.of (off_at tp upd_same)) (Keep.all (Keep.new ht) h)
theorem dt_lst {K : PySem.W.Frag} {p t : Addr} {H : Hp} {vs : List V} {ds : List PyData} (tp : t ≠ p) (ht : H t = none) (h : DpAll K (off p H) vs ds) : Dt K p (upd H t (.lst vs)) (.ref t) (.list ds) :=
  .lst (SqL.of (off_at tp upd_same)) (Keep.all (Keep.new ht) h)
theorem dpAll_snoc {K : PySem.W.Frag} {H : Hp} {vs : List V} {ds : List PyData} {v : V} {d : PyData} (a : DpAll K H vs ds) (b : Dp K H v d) : DpAll K H (vs ++ [v]) (ds ++ [d]) := dpAll_append a (.cons b .nil)
theorem niceAll_append {e : Nat} (a b : List PyData) : niceAll e (a ++ b) = (niceAll e a && niceAll e b) := by
  induction a with
  | nil => simp [niceAll]
  | cons x a ih => simp [niceAll, ih, Bool.and_assoc]
theorem niceAll_reverse {e : Nat} {a : List PyData} (h : niceAll e a = true) : niceAll e a.reverse = true :=
  niceAll_iff.mpr fun d hd => niceAll_iff.mp h d (List.mem_reverse.mp hd)
theorem depthAll_reverse (a : List PyData) : PyData.depthAll a.reverse = PyData.depthAll a :=
  Nat.le_antisymm (depthAll_le.mpr fun d hd => depthAll_le.mp (Nat.le_refl _) d (List.mem_reverse.mp hd)) (depthAll_le.mpr fun d hd => depthAll_le.mp (Nat.le_refl _) d (List.mem_reverse.mpr hd))
theorem split_at {α : Type} {l : List α} {j : Nat} {x : α} (h : l[j]? = some x) : l = l.take j ++ x :: l.drop (j + 1) := by
  have hj := (List.getElem?_eq_some_iff.mp h).1
  have e := (List.getElem?_eq_some_iff.mp h).2
  rw [← e, List.getElem_cons_drop, List.take_append_drop]
theorem cut_to (xs : List V) (j : Nat) (h : j ≤ xs.length) : cutV xs none (some (j : Int)) = xs.take j := by
  unfold cutV
  rw [HT.sIx_none, HT.sIx_nat, List.drop_zero, Nat.sub_zero, Nat.min_eq_left h]
theorem cut_from (xs : List V) (j : Nat) (h : j ≤ xs.length) : cutV xs (some (j : Int)) none = xs.drop j := by
  unfold cutV
  rw [HT.sIx_none, HT.sIx_nat, Nat.min_eq_left h, List.take_of_length_le (by rw [List.length_drop]; exact Nat.le_refl _)]
theorem isA_tup {d : PyData} (h : isA "tuple" d = true) : ∃ ds, d = .tuple ds := by
  cases d <;> first | exact ⟨_, rfl⟩ | (exfalso; revert h; simp [isA, isS, kindD])
theorem isA_int {d : PyData} (h : isA "int" d = true) (hb : isA "bool" d = false) : ∃ i, d = .int i := by
  cases d <;> first | exact ⟨_, rfl⟩ | (exfalso; revert h hb; simp [isA, isS, kindD])
theorem Dt.get {K : PySem.W.Frag} {p : Addr} {H : Hp} {v : V} {ds : List PyData} (h : Dt K p H v (.tuple ds)) : ∃ (a : Addr) (xs : List V), v = .ref a ∧ SqT K H a xs ∧ DpAll K (off p H) xs ds := by
  cases h with | tup h1 h2 => exact ⟨_, _, rfl, sameT off_in h1, h2⟩
theorem dt_of {K : PySem.W.Frag} {p t : Addr} {H : Hp} {n : Nat} {xs : List V} {ds : List PyData} (D : Deck K H p n) (h : SqT K H t xs) (a : DpAll K (off p H) xs ds) : Dt K p H (.ref t) (.tuple ds) := by
  obtain ⟨_, _, _, _, hp, _⟩ := D
  exact .tup (tup_off hp h) a
theorem paired_snoc {α β : Type} {F : α → β → Prop} : ∀ {as : List α} {bs : List β} {a : α} {b : β}, Paired F as bs → F a b → Paired F (as ++ [a]) (bs ++ [b])
  | _, _, _, _, .nil, h => .cons h .nil
  | _, _, _, _, .cons r t, h => .cons r (paired_snoc t h)
/-- on the way through a list of data: what has been made so far -/
structure Acc (K : PySem.W.Frag) (p : Addr) (n : Nat) (H0 H : Hp) (vs : List V) (ds : List PyData) : Prop where
  dk : Deck K H p n
  al : DpAll K (off p H) vs ds
  kp : Keep p H0 H
section
variable {K : PySem.W.Frag} {p t : Addr} {n : Nat} {vs us : List V} {ds es : List PyData} {H0 H J : Hp}
theorem Acc.same (a : Acc K p n H0 H vs ds) (s : Same H J) : Acc K p n H0 J vs ds := ⟨a.dk.of_same s, Keep.all (Keep.of_same s) a.al, a.kp.trans (Keep.of_same s)⟩
theorem Acc.new {o : HO} (a : Acc K p n H0 H vs ds) (h : H t = none) : Acc K p n H0 (upd H t o) vs ds := a.same (same_new h)
theorem Acc.add {v : V} {d : PyData} (a : Acc K p n H0 H vs ds) (b : Dt K p H v d) : Acc K p n H0 H (vs ++ [v]) (ds ++ [d]) := ⟨a.dk, dpAll_snoc a.al b, a.kp⟩
theorem Acc.keep {m : Nat} (a : Acc K p n H0 H vs ds) (k : Keep p H J) (D : Deck K J p m) : Acc K p m H0 J vs ds := ⟨D, k.all a.al, a.kp.trans k⟩
end
theorem dpAll_flat {K : PySem.W.Frag} {H : Hp} {vs : List V} {ds : List PyData} (h : DpAll K H vs ds) : ∀ n : Nat, DpAll K H (List.replicate n vs).flatten (List.replicate n ds).flatten
  | 0 => .nil
  | n + 1 => by
    rw [List.replicate_succ, List.replicate_succ, List.flatten_cons, List.flatten_cons]
    exact dpAll_append h (dpAll_flat h n)
theorem wt_flat (ds : List PyData) : ∀ n : Nat, wtAll (List.replicate n ds).flatten = n * wtAll ds
  | 0 => by simp [wtAll]
  | n + 1 => by
    rw [List.replicate_succ, List.flatten_cons, wtAll_append, wt_flat ds n, Nat.succ_mul]
    omega
theorem mem_flat {ds : List PyData} {d : PyData} : ∀ {n : Nat}, d ∈ (List.replicate n ds).flatten → d ∈ ds := fun {n} h => by
  obtain ⟨l, hl, hd⟩ := List.mem_flatten.mp h
  rw [List.eq_of_mem_replicate hl] at hd
  exact hd
theorem wt_take (ds : List PyData) (j : Nat) : wtAll (ds.take j) ≤ wtAll ds := by
  have := congrArg wtAll (List.take_append_drop j ds)
  rw [wtAll_append] at this
  omega
theorem wt_drop (ds : List PyData) (j : Nat) : wtAll (ds.drop j) ≤ wtAll ds := by
  have := congrArg wtAll (List.take_append_drop j ds)
  rw [wtAll_append] at this
  omega
/-- tuples and lists of small items -/
theorem tiny_tup {e W m : Nat} {ds : List PyData} (h : ∀ d ∈ ds, nice e d = true ∧ d.depth ≤ m) (hw : wtAll ds < W) : Tiny e W (m + 1) (.tuple ds) ∧ Tiny e W (m + 1) (.list ds) := by
  have a : niceAll e ds = true := niceAll_iff.mpr fun d hd => (h d hd).1
  have b : PyData.depthAll ds ≤ m := depthAll_le.mpr fun d hd => (h d hd).2
  refine ⟨⟨by simpa only [nice] using a, by simp only [wt]; omega, by simp only [PyData.depth]; omega⟩, ⟨by simpa only [nice] using a, by simp only [wt]; omega, by simp only [PyData.depth]; omega⟩⟩

/-! ### odd things, things bent -/
def oddD : List PyData := [.none, .bool true, .bool false, .int 0, .int 1, .int 2, .int (-1), .int 7, .int (10 ^ 40), .str "", .str "0", .str "named", .str "wait", .tuple [], .list [], .tuple [.int 0], .tuple [.int 1], .list [.int 0], .tuple [.int 0, .int 0]]
def oddE : List PyData := [.tuple [.bool true], .tuple [.int 0, .int 1], .tuple [.int 0, .int 1, .tuple [.int 0]], .tuple [.tuple [.int 0], .int 0], .tuple [.tuple [], .tuple []], .tuple [.int 0, .list [.int 1]], .tuple [.tuple [.int 0, .int 1], .tuple [.int 1, .int 1]]]
theorem odd_tiny : ∀ d ∈ oddD ++ oddE, Tiny 140 12 4 d := by
  have h : ∀ d ∈ oddD ++ oddE, (nice 140 d && decide (wt d ≤ 12) && decide (d.depth ≤ 4)) = true := by
    intro d hd
    simp only [oddD, oddE, List.cons_append, List.nil_append, List.mem_cons, List.not_mem_nil, or_false] at hd
    rcases hd with h | h | h | h | h | h | h | h | h | h | h | h | h | h | h | h | h | h | h | h | h | h | h | h | h | h <;> (rw [h]; decide +kernel)
  intro d hd
  have q := h d hd
  simp only [Bool.and_eq_true, decide_eq_true_eq] at q
  exact ⟨q.1.1, q.1.2, q.2⟩
/-- on the way through a list of data: what has been made so far, behind a list that stands at la -/
structure Way (K : PySem.W.Frag) (p : Addr) (n : Nat) (la : Addr) (xs : List V) (H0 H : Hp) (vs : List V) (ds : List PyData) : Prop where
  dk : Deck K H p n
  al : DpAll K (off p H) vs ds
  la : H la = some (.lst xs)
  kp : Keep p H0 H
section
variable {K : PySem.W.Frag} {p la t : Addr} {n : Nat} {xs vs us : List V} {ds es : List PyData} {H0 H : Hp}
theorem Way.step {o : HO} (w : Way K p n la xs H0 H vs ds) (h : H t = none) : Way K p n la xs H0 (upd H t o) vs ds :=
  ⟨w.dk.put h, Keep.all (Keep.new h) w.al, by rw [upd_ne (ne_of_none w.la h)]; exact w.la, w.kp.trans (Keep.new h)⟩
theorem Way.tup (w : Way K p n la xs H0 H vs ds) (h : H t = none) (a : DpAll K (off p H) us es) : Dt K p (upd H t (.tup us)) (.ref t) (.tuple es) := dt_tup (w.dk.ne_new h) h a
theorem Way.lst (w : Way K p n la xs H0 H vs ds) (h : H t = none) (a : DpAll K (off p H) us es) : Dt K p (upd H t (.lst us)) (.ref t) (.list es) := dt_lst (w.dk.ne_new h) h a
theorem Way.add {v : V} {d : PyData} (w : Way K p n la xs H0 H vs ds) (a : Dt K p H v d) : Way K p n la xs H0 H (vs ++ [v]) (ds ++ [d]) := ⟨w.dk, dpAll_snoc w.al a, w.la, w.kp⟩
end
def sp_odd (K : PySem.W.Frag) : Sp := fun vs H Q _ => ∃ (p : Addr) (n : Nat), vs = [.ref p] ∧ Deck K H p n ∧ n < 900000 ∧
  ∀ (v : V) (d : PyData) (J : Hp), Dt K p J v d → Tiny 140 12 4 d → Deck K J p (n + 1) → Keep p H J → Q v J
section
variable {P : Program} {w : World} {K : PySem.W.Frag} {mg : Str → Option Value} {base : Heap}
theorem ok_odd (T : Txt K mg) : FnOk P w K mg base CX0 3 T.a_odd T.d_odd ["_law_deck_here"] (sp_odd K) := by
  have G_one : FnOk P w K mg base CX0 2 T.a_one T.d_one ["_law_deck_here", "_law_items"] (sp_one K) := ok_one T
  refine T.F_odd.ok sc_odd (fun vs H Q E h => ?_) (fun cdv A outer s H vs Q E hr h => ?_)
  · obtain ⟨p, n, rfl, _⟩ := h
    rfl
  · obtain ⟨p, n, rfl, D, hn, k⟩ := h
    refine ⟨_, (pss_cons (ps_set (i := 1) sc_odd.nd rfl (Or.inl rfl) (pe_lst (pa_cons pe_non (pa_cons pe_bl (pa_cons pe_bl (pa_cons pe_int (pa_cons pe_int (pa_cons pe_int (pa_cons (pe_un un_neg pe_int) (pa_cons pe_int (pa_cons (pe_op op_pow pe_int pe_int) (pa_cons pe_str (pa_cons pe_str (pa_cons pe_str (pa_cons pe_str (pa_cons (pe_tup pa_nil) (pa_cons (pe_lst pa_nil) (pa_cons (pe_tup (pa_cons pe_int pa_nil)) (pa_cons (pe_tup (pa_cons pe_int pa_nil)) (pa_cons (pe_lst (pa_cons pe_int pa_nil)) (pa_cons (pe_tup (pa_cons pe_int (pa_cons pe_int pa_nil))) pa_nil)))))))))))))))))))))
      (pss_one (ps_ret (pe_call G_one (hr.mono (by omega)) (by rfl) T.g_one T.F_one.kp T.b_one .nil pass0 (pa_cons (pv 0) (pa_cons (pe_op op_cat (pv 1) (pe_lst (pa_cons (pe_tup (pa_cons pe_bl pa_nil)) (pa_cons (pe_tup (pa_cons pe_int (pa_cons pe_int pa_nil))) (pa_cons (pe_tup (pa_cons pe_int (pa_cons pe_int (pa_cons (pe_tup (pa_cons pe_int pa_nil)) pa_nil)))) (pa_cons (pe_tup (pa_cons (pe_tup (pa_cons pe_int pa_nil)) (pa_cons pe_int pa_nil))) (pa_cons (pe_tup (pa_cons (pe_tup pa_nil) (pa_cons (pe_tup pa_nil) pa_nil))) (pa_cons (pe_tup (pa_cons pe_int (pa_cons (pe_lst (pa_cons pe_int pa_nil)) pa_nil))) (pa_cons (pe_tup (pa_cons (pe_tup (pa_cons pe_int (pa_cons pe_int pa_nil))) (pa_cons (pe_tup (pa_cons pe_int (pa_cons pe_int pa_nil))) pa_nil))) pa_nil))))))))) pa_nil)))))), ?_⟩
    have a0 : DpAll K (off p H) [.non, .bl true, .bl false, .int 0, .int 1, .int 2, .int (-1), .int 7, .int (10 ^ 40), .str "", .str "0", .str "named", .str "wait"] (oddD.take 13) :=
      .cons .non (.cons (.bl _) (.cons (.bl _) (.cons (.int _) (.cons (.int _) (.cons (.int _) (.cons (.int _) (.cons (.int _) (.cons (.int _) (.cons (.str _) (.cons (.str _) (.cons (.str _) (.cons (.str _) .nil))))))))))))
    refine ⟨1, rfl, 10, 40, rfl, rfl, ⟨by decide, by decide, by decide⟩, by show 0 ≤ sizeLine; decide, fun t1 h1 => ?_⟩
    have D1 := D.put (o := .tup []) h1
    have b1 := dpAll_snoc (Keep.all (Keep.new h1) a0) (dt_tup (D.ne_new h1) h1 .nil)
    refine ⟨by show 0 ≤ sizeLine; decide, fun t2 h2 => ?_⟩
    have D2 := D1.put (o := .lst []) h2
    have b2 := dpAll_snoc (Keep.all (Keep.new h2) b1) (dt_lst (D1.ne_new h2) h2 .nil)
    refine ⟨by show 1 ≤ sizeLine; decide, fun t3 h3 => ?_⟩
    have D3 := D2.put (o := .tup [.int 0]) h3
    have b3 := dpAll_snoc (Keep.all (Keep.new h3) b2) (dt_tup (D2.ne_new h3) h3 (.cons (.int 0) .nil))
    refine ⟨by show 1 ≤ sizeLine; decide, fun t4 h4 => ?_⟩
    have D4 := D3.put (o := .tup [.int 1]) h4
    have b4 := dpAll_snoc (Keep.all (Keep.new h4) b3) (dt_tup (D3.ne_new h4) h4 (.cons (.int 1) .nil))
    refine ⟨by show 1 ≤ sizeLine; decide, fun t5 h5 => ?_⟩
    have D5 := D4.put (o := .lst [.int 0]) h5
    have b5 := dpAll_snoc (Keep.all (Keep.new h5) b4) (dt_lst (D4.ne_new h5) h5 (.cons (.int 0) .nil))
    refine ⟨by show 2 ≤ sizeLine; decide, fun t6 h6 => ?_⟩
    have D6 := D5.put (o := .tup [.int 0, .int 0]) h6
    have b6 := dpAll_snoc (Keep.all (Keep.new h6) b5) (dt_tup (D5.ne_new h6) h6 (.cons (.int 0) (.cons (.int 0) .nil)))
    refine ⟨by show 19 ≤ sizeLine; decide, fun la hla => ?_⟩
    have b7 := Keep.all (Keep.new (p := p) hla (o := .lst [.non, .bl true, .bl false, .int 0, .int 1, .int 2, .int (-1), .int 7, .int (10 ^ 40), .str "", .str "0", .str "named", .str "wait", .ref t1, .ref t2, .ref t3, .ref t4, .ref t5, .ref t6])) b6
    have K7 := (((((((Keep.new (p := p) (o := .tup []) h1).trans (Keep.new (o := .lst []) h2)).trans (Keep.new (o := .tup [.int 0]) h3)).trans (Keep.new (o := .tup [.int 1]) h4)).trans (Keep.new (o := .lst [.int 0]) h5)).trans (Keep.new (o := .tup [.int 0, .int 0]) h6)).trans (Keep.new (o := .lst [.non, .bl true, .bl false, .int 0, .int 1, .int 2, .int (-1), .int 7, .int (10 ^ 40), .str "", .str "0", .str "named", .str "wait", .ref t1, .ref t2, .ref t3, .ref t4, .ref t5, .ref t6]) hla))
    have w7 : Way K p n la _ H _ _ _ := ⟨D6.put hla, b7, upd_same, K7⟩
    refine ⟨_, rfl, _, rfl, by show 1 ≤ sizeLine; decide, fun t7 h7 => ?_⟩
    have w8 := (w7.step h7 (o := .tup [.bl true])).add (w7.tup h7 (.cons (.bl true) .nil))
    refine ⟨by show 2 ≤ sizeLine; decide, fun t8 h8 => ?_⟩
    have w9 := (w8.step h8 (o := .tup [.int 0, .int 1])).add (w8.tup h8 (.cons (.int 0) (.cons (.int 1) .nil)))
    refine ⟨by show 1 ≤ sizeLine; decide, fun t9 h9 => ?_⟩
    have w10 := w9.step h9 (o := .tup [.int 0])
    have i10 := w9.tup h9 (.cons (.int 0) .nil)
    refine ⟨by show 3 ≤ sizeLine; decide, fun t10 h10 => ?_⟩
    have w11 := (w10.step h10 (o := .tup [.int 0, .int 1, .ref t9])).add (w10.tup h10 (.cons (.int 0) (.cons (.int 1) (.cons i10 .nil))))
    refine ⟨by show 1 ≤ sizeLine; decide, fun t11 h11 => ?_⟩
    have w12 := w11.step h11 (o := .tup [.int 0])
    have i12 := w11.tup h11 (.cons (.int 0) .nil)
    refine ⟨by show 2 ≤ sizeLine; decide, fun t12 h12 => ?_⟩
    have w13 := (w12.step h12 (o := .tup [.ref t11, .int 0])).add (w12.tup h12 (.cons i12 (.cons (.int 0) .nil)))
    refine ⟨by show 0 ≤ sizeLine; decide, fun t13 h13 => ?_⟩
    have w14 := w13.step h13 (o := .tup [])
    have i14 := w13.tup h13 .nil
    refine ⟨by show 0 ≤ sizeLine; decide, fun t14 h14 => ?_⟩
    have w15 := w14.step h14 (o := .tup [])
    have i15 := Keep.dt (Keep.new h14 (o := .tup [])) i14
    have j15 := w14.tup h14 .nil
    refine ⟨by show 2 ≤ sizeLine; decide, fun t15 h15 => ?_⟩
    have w16 := (w15.step h15 (o := .tup [.ref t13, .ref t14])).add (w15.tup h15 (.cons i15 (.cons j15 .nil)))
    refine ⟨by show 1 ≤ sizeLine; decide, fun t16 h16 => ?_⟩
    have w17 := w16.step h16 (o := .lst [.int 1])
    have i17 := w16.lst h16 (.cons (.int 1) .nil)
    refine ⟨by show 2 ≤ sizeLine; decide, fun t17 h17 => ?_⟩
    have w18 := (w17.step h17 (o := .tup [.int 0, .ref t16])).add (w17.tup h17 (.cons (.int 0) (.cons i17 .nil)))
    refine ⟨by show 2 ≤ sizeLine; decide, fun t18 h18 => ?_⟩
    have w19 := w18.step h18 (o := .tup [.int 0, .int 1])
    have i19 := w18.tup h18 (.cons (.int 0) (.cons (.int 1) .nil))
    refine ⟨by show 2 ≤ sizeLine; decide, fun t19 h19 => ?_⟩
    have w20 := w19.step h19 (o := .tup [.int 1, .int 1])
    have i20 := Keep.dt (Keep.new h19 (o := .tup [.int 1, .int 1])) i19
    have j20 := w19.tup h19 (.cons (.int 1) (.cons (.int 1) .nil))
    refine ⟨by show 2 ≤ sizeLine; decide, fun t20 h20 => ?_⟩
    have w21 := (w20.step h20 (o := .tup [.ref t18, .ref t19])).add (w20.tup h20 (.cons i20 (.cons j20 .nil)))
    refine ⟨by show 7 ≤ sizeLine; decide, fun lb hlb => ?_⟩
    have w22 := w21.step hlb (o := .lst [.ref t7, .ref t8, .ref t10, .ref t12, .ref t15, .ref t17, .ref t20])
    refine ⟨la, lb, _, _, rfl, rfl, w22.la, upd_same, by show 26 ≤ sizeLine; decide, fun lc hlc => ?_⟩
    have w23 := w22.step hlc (o := .lst [.non, .bl true, .bl false, .int 0, .int 1, .int 2, .int (-1), .int 7, .int (10 ^ 40), .str "", .str "0", .str "named", .str "wait", .ref t1, .ref t2, .ref t3, .ref t4, .ref t5, .ref t6, .ref t7, .ref t8, .ref t10, .ref t12, .ref t15, .ref t17, .ref t20])
    refine ⟨p, lc, _, n, rfl, SqL.of upd_same, w22.dk.ne_new hlc, by show 0 < 26; decide, by show 26 < 100000; decide, w23.dk, by omega, fun i x J hx DJ KJ => ?_⟩
    obtain ⟨d, hd, xd⟩ := dpAll_get w23.al hx
    exact k x d J (KJ.dt xd) (odd_tiny d (List.mem_of_getElem? hd)) DJ (w23.kp.trans KJ)
end

/-! ### things bent -/
/-- small behind a bending -/
structure Bent (e : Nat) (d d' : PyData) : Prop where
  ni : nice (e + 1) d' = true
  we : wt d' ≤ 2 * wt d + 40
  de : d'.depth ≤ d.depth + 4
theorem Bent.tup {e : Nat} {ds es : List PyData} (h1 : niceAll (e + 1) es = true) (h2 : wtAll es ≤ 2 * wtAll ds + 40) (h3 : PyData.depthAll es ≤ PyData.depthAll ds + 4) : Bent e (.tuple ds) (.tuple es) :=
  ⟨by simpa only [nice] using h1, by simp only [wt]; omega, by simp only [PyData.depth]; omega⟩
def sp_bent (K : PySem.W.Frag) (M : Nat) : Sp := fun vs H Q _ => ∃ (p : Addr) (v : V) (d : PyData) (m : Int) (n e : Nat), vs = [.ref p, v, .int m] ∧ Dt K p H v d ∧ nice e d = true ∧ 140 ≤ e ∧ e < 1800 ∧ wt d < 100000 ∧ d.depth ≤ 40 ∧ 0 ≤ m ∧ m < (M : Int) ∧
  Deck K H p n ∧ n + 4 * M < 800000 ∧ ∀ (v' : V) (d' : PyData) (J : Hp) (n' : Nat), Dt K p J v' d' → Bent e d d' → n' ≤ n + 4 * M → Deck K J p n' → Keep p H J → Q v' J
section
variable {P : Program} {w : World} {K : PySem.W.Frag} {mg : Str → Option Value} {base : Heap}
theorem ok_bent (T : Txt K mg) : ∀ M : Nat, FnOk P w K mg base CX0 (3 + M) T.a_bent T.d_bent ["_law_deck_here", "_law_thing", "_law_deep"] (sp_bent K M)
  | 0 => by
    refine ⟨fun vs H Q E h => ?_, fun A outer s H args us vs Q E hr he hb hv h => ?_⟩
    · obtain ⟨p, v, d, m, n, e, rfl, _⟩ := h
      rfl
    · obtain ⟨p, v, d, m, n, e, rfl, _, _, _, _, _, _, m0, m1, _⟩ := h
      exact absurd m1 (by omega)
  | M + 1 => by
    have G_draw : FnOk P w K mg base CX0 1 T.a_draw T.d_draw ["_law_deck_here", "_law_many"] (sp_draw K) := ok_draw T
    have G_one : FnOk P w K mg base CX0 2 T.a_one T.d_one ["_law_deck_here", "_law_items"] (sp_one K) := ok_one T
    have G_odd : FnOk P w K mg base CX0 3 T.a_odd T.d_odd ["_law_deck_here"] (sp_odd K) := ok_odd T
    have G_bent := ok_bent T M
    refine Fun.ok (k := 3 + M) T.F_bent sc_bent (fun vs H Q E h => ?_) (fun cdv A outer s H vs Q E hr h => ?_)
    · obtain ⟨p, v, d, m, n, e, rfl, _⟩ := h
      rfl
    · obtain ⟨p, v, d, m, n, e, rfl, hd, hni, e0, e1, hw, hdep, m0, m1, D, hn, k⟩ := h
      refine ⟨_, (pss_cons (ps_if (pt_cut (PW.pt (pw_or (pt_not (pt_val (pe_callB (id := "isinstance") (call_isD "tuple" (by decide)) (by rfl) T.m_isinstance (by decide +kernel) (pa_cons (pv 1) (pa_cons (pe_bltn (v := .ty "tuple") (by rfl) T.m_tuple (by decide +kernel) rfl) pa_nil))))) (pw_or (pt_cmpR (op_eqD hr.units) (pv 1) (pe_tup pa_nil) (nomark _)) (pw_or (pt_cmpR op_eq (pv 2) pe_int (nomark _)) (pw_or1 (pt_cmpR op_eq (pe_call G_draw (hr.mono (by omega)) (by rfl) T.g_draw T.F_draw.kp T.b_draw .nil pass0 (pa_cons (pv 0) (pa_cons pe_int pa_nil))) pe_int (nomark _))))))))
        (pss_cons (ps_if (pt_cut (PW.pt (pw_and (pt_val (pe_callB (id := "isinstance") (call_isD "int" (by decide)) (by rfl) T.m_isinstance (by decide +kernel) (pa_cons (pv 1) (pa_cons (pe_bltn (v := .ty "int") (by rfl) T.m_int (by decide +kernel) rfl) pa_nil)))) (pw_and (pt_not (pt_val (pe_callB (id := "isinstance") (call_isD "bool" (by decide)) (by rfl) T.m_isinstance (by decide +kernel) (pa_cons (pv 1) (pa_cons (pe_bltn (v := .ty "bool") (by rfl) T.m_bool (by decide +kernel) rfl) pa_nil))))) (pw_and1 (pt_cmpR op_eq (pe_call G_draw (hr.mono (by omega)) (by rfl) T.g_draw T.F_draw.kp T.b_draw .nil pass0 (pa_cons (pv 0) (pa_cons pe_int pa_nil))) pe_int (nomark _)))))))
        (pss_one (ps_ret (pe_op op_add (pv 1) (pe_call G_one (hr.mono (by omega)) (by rfl) T.g_one T.F_one.kp T.b_one .nil pass0 (pa_cons (pv 0) (pa_cons (pe_lst (pa_cons pe_int (pa_cons (pe_un un_neg pe_int) (pa_cons pe_int (pa_cons (pe_op op_sub pe_int (pv 1)) pa_nil))))) pa_nil))))))
        pss_nil)
      (pss_one (ps_ret (pe_call G_odd (hr.mono (by omega)) (by rfl) T.g_odd T.F_odd.kp T.b_odd .nil pass0 (pa_cons (pv 0) pa_nil)))))
        pss_nil)
      (pss_cons (ps_par (i := 3) (j := 4) (by rfl) sc_bent.nd rfl rfl (by decide) rfl rfl (pa_cons (pe_call G_draw (hr.mono (by omega)) (by rfl) T.g_draw T.F_draw.kp T.b_draw .nil pass0 (pa_cons (pv 0) (pa_cons (pe_callB (id := "len") call_len_seq (by rfl) T.m_len (by decide +kernel) (pa_cons (pv 1) pa_nil)) pa_nil))) (pa_cons (pe_call G_draw (hr.mono (by omega)) (by rfl) T.g_draw T.F_draw.kp T.b_draw .nil pass0 (pa_cons (pv 0) (pa_cons pe_int pa_nil))) pa_nil)) (by rfl))
      (pss_cons (ps_if (pt_cmpR op_eq (pv 4) pe_int (nomark _))
        (pss_one (ps_ret (pe_op op_catS (pe_slice sl_tupS (pv 1) po_none (po_some (pv 3))) (pe_slice sl_tupS (pv 1) (po_some (pe_op op_add (pv 3) pe_int)) po_none))))
        pss_nil)
      (pss_cons (ps_if (pt_cmpR op_eq (pv 4) pe_int (nomark _))
        (pss_one (ps_ret (pe_op op_catS (pe_op op_catS (pe_slice sl_tupS (pv 1) po_none (po_some (pv 3))) (pe_tup (pa_cons (pe_ix ix_tup (pv 1) (pv 3) (fun _ _ => rfl)) pa_nil))) (pe_slice sl_tupS (pv 1) (po_some (pv 3)) po_none))))
        pss_nil)
      (pss_cons (ps_if (pt_cmpR op_eq (pv 4) pe_int (nomark _))
        (pss_one (ps_ret (pe_revT (pv 1))))
        pss_nil)
      (pss_cons (ps_if (pt_cmpR op_eq (pv 4) pe_int (nomark _))
        (pss_one (ps_ret (pe_callTy (T := "list") call_list_of (by rfl) T.m_list (by decide +kernel) (pa_cons (pv 1) pa_nil))))
        pss_nil)
      (pss_one (ps_ret (pe_op op_catS (pe_op op_catS (pe_slice sl_tupS (pv 1) po_none (po_some (pv 3))) (pe_tup (pa_cons (pe_call G_bent (hr.mono (by omega)) (by rfl) T.g_bent T.F_bent.kp T.b_bent .nil pass0 (pa_cons (pv 0) (pa_cons (pe_ix ix_tup (pv 1) (pv 3) (fun _ _ => rfl)) (pa_cons (pe_op op_sub (pv 2) pe_int) pa_nil)))) pa_nil))) (pe_slice sl_tupS (pv 1) (po_some (pe_op op_add (pv 3) pe_int)) po_none)))))))))), ?_⟩
      have shp : SeqAt.shaped d = true := nice_shaped hni (by omega)
      -- nothing to go into
      refine ⟨fun b J => (b = false → ∃ ds, d = .tuple ds ∧ ds ≠ [] ∧ 0 < m) ∧ ∃ n1, n1 ≤ n + 1 ∧ Deck K J p n1 ∧ Keep p H J, ?_, ?_⟩
      · refine ⟨_, rfl, v, d, rfl, dpSame off_in d v hd, _, rfl, ?_⟩
        refine ite2 (fun _ => ⟨(fun z => nomatch z), n, by omega, D, Keep.refl p H⟩) (fun ht => ?_)
        obtain ⟨ds, rfl⟩ := isA_tup (d := d) (by simpa using ht)
        refine ⟨_, rfl, by show 0 ≤ sizeLine; decide, fun q hq => ?_⟩
        have kq : Keep p H (upd H q (.tup [])) := Keep.new hq
        have Dq := D.put (o := .tup []) hq
        refine ⟨.tuple ds, .tuple [], dpSame off_in _ v (kq.dt hd), .tup (SqT.of upd_same) .nil, shp, by decide, _, rfl, ?_⟩
        refine ite2 (fun _ => ⟨(fun z => nomatch z), n, by omega, Dq, kq⟩) (fun hne => ?_)
        have hds : ds ≠ [] := fun z => hne (by rw [z]; simp [PyData.eqv, PyData.eqvAll])
        refine ⟨_, rfl, rfl, _, rfl, ?_⟩
        refine ite2 (fun _ => ⟨(fun z => nomatch z), n, by omega, Dq, kq⟩) (fun hm => ?_)
        have mp : 0 < m := by
          have : ¬ m = 0 := fun z => hm (decide_eq_true (by rw [z]))
          omega
        refine ⟨_, rfl, p, 7, n, rfl, by decide, by decide, Dq, by omega, fun r J _ _ DJ KJ => ⟨rfl, _, rfl, fun _ => ⟨ds, rfl, hds, mp⟩, n + 1, Nat.le_refl _, DJ, kq.trans KJ⟩⟩
      · rintro b H1 ⟨hb, n1, hn1, D1, K1⟩
        have hd1 := K1.dt hd
        cases b with
        | true =>
          refine iteT ?_
          refine ⟨fun b J => (b = true → ∃ i, d = .int i) ∧ ∃ n2, n2 ≤ n1 + 1 ∧ Deck K J p n2 ∧ Keep p H J, ?_, ?_⟩
          · refine ⟨_, rfl, v, d, rfl, dpSame off_in d v hd1, _, rfl, ?_⟩
            refine ite2 (fun hi => ?_) (fun _ => ⟨(fun z => nomatch z), n1, by omega, D1, K1⟩)
            refine ⟨_, rfl, v, d, rfl, dpSame off_in d v hd1, _, rfl, ?_⟩
            refine ite2 (fun hnb => ?_) (fun _ => ⟨(fun z => nomatch z), n1, by omega, D1, K1⟩)
            refine ⟨_, rfl, p, 2, n1, rfl, by decide, by decide, D1, by omega, fun r J _ _ DJ KJ => ⟨rfl, _, rfl, fun _ => isA_int hi (by simpa using hnb), n1 + 1, Nat.le_refl _, DJ, K1.trans KJ⟩⟩
          · rintro b H2 ⟨hb2, n2, hn2, D2, K2⟩
            cases b with
            | true =>
              obtain ⟨i, rfl⟩ := hb2 rfl
              have hv : v = .int i := by cases hd; rfl
              subst hv
              have hi : i.natAbs < 2 ^ e := by simpa [nice] using hni
              have p2 : 2 ≤ 2 ^ e := Nat.le_trans (by decide : 2 ≤ 2 ^ 1) (Nat.pow_le_pow_right (by decide) (by omega))
              have pe : 2 ^ (e + 1) = 2 ^ e * 2 := Nat.pow_succ 2 e
              refine iteT ⟨_, rfl, _, rfl, 1, rfl, _, rfl, _, _, rfl, rfl, by show 4 ≤ sizeLine; decide, fun l hl => ?_⟩
              refine ⟨p, l, _, n2, rfl, SqL.of upd_same, D2.ne_new hl, by show 0 < 4; decide, by show 4 < 100000; decide, D2.put hl, by omega, fun j x J hx DJ KJ => ?_⟩
              obtain ⟨y, rfl, hy⟩ : ∃ y : Int, x = .int y ∧ (y.natAbs ≤ 2 ∨ y.natAbs ≤ i.natAbs) := by
                have m := List.mem_of_getElem? hx
                simp only [List.mem_cons, List.not_mem_nil, or_false] at m
                rcases m with m | m | m | m
                · exact ⟨_, m, .inl (by decide)⟩
                · exact ⟨_, m, .inl (by decide)⟩
                · exact ⟨_, m, .inl (by decide)⟩
                · exact ⟨_, m, .inr (by omega)⟩
              refine ⟨_, _, rfl, rfl, k _ (.int (i + y)) J (n2 + 1) (.int _) ⟨?_, by simp only [wt]; omega, by simp only [PyData.depth]; omega⟩ (by omega) DJ ((K2.trans (Keep.new hl)).trans KJ)⟩
              simp only [nice, decide_eq_true_eq]
              rw [pe]
              omega
            | false =>
              refine iteF ⟨_, rfl, p, n2, rfl, D2, by omega, fun v' d' J hd' td DJ KJ => ?_⟩
              exact k v' d' J (n2 + 1) hd' ⟨nice_more (by omega) d' td.ni, by have := td.we; omega, by have := td.de; omega⟩ (by omega) DJ (K2.trans KJ)
        | false =>
          obtain ⟨ds, rfl, hds, mp⟩ := hb rfl
          obtain ⟨a, xs, rfl, hx, hal⟩ := hd1.get
          have hlen : xs.length = ds.length := dpAll_len hal
          have hwA : wtAll ds < 100000 := by simp only [wt] at hw; omega
          have hlw := wtAll_len ds
          have l0 : 0 < ds.length := List.length_pos_iff.mpr hds
          have hnA : niceAll e ds = true := by simpa only [nice] using hni
          have hnA1 : niceAll (e + 1) ds = true := nice_moreAll (by omega) ds hnA
          have hdA : PyData.depthAll ds + 1 ≤ 40 := by simpa only [PyData.depth] using hdep
          have szl : 2 * ds.length + 10 ≤ sizeLine := Nat.le_trans (by omega : 2 * ds.length + 10 ≤ 200010) (by decide)
          refine iteF ⟨_, rfl, _, rfl, a, xs, rfl, .inr hx, p, _, n1, rfl, by omega, by omega, D1, by omega, fun r J r0 r1 DJ KJ => ?_⟩
          obtain ⟨j, rfl⟩ : ∃ j : Nat, r = (j : Int) := ⟨r.toNat, (Int.toNat_of_nonneg r0).symm⟩
          have hj : j < ds.length := by omega
          refine ⟨_, rfl, p, 10, n1 + 1, rfl, by decide, by decide, DJ, by omega, fun z H2 z0 z1 D2 KJ2 => ?_⟩
          have K12 : Keep p H1 H2 := KJ.trans KJ2
          have K2 : Keep p H H2 := K1.trans K12
          obtain ⟨_, _, _, _, hp1, _⟩ := id D1
          have hx2 : SqT K H2 a xs := sameT off_in (sameT K12.s (tup_off hp1 hx))
          have hal2 := K12.all hal
          obtain ⟨dj, hdj⟩ : ∃ dj, ds[j]? = some dj := ⟨_, List.getElem?_eq_getElem hj⟩
          have sp := split_at hdj
          have wsp : wtAll ds = wtAll (ds.take j) + (wt dj + wtAll (ds.drop (j + 1))) := by
            have z := congrArg wtAll sp
            rw [wtAll_append] at z
            simpa only [wtAll] using z
          have nsp : niceAll (e + 1) (ds.take j) = true ∧ niceAll (e + 1) (ds.drop (j + 1)) = true := by
            have z := hnA1
            rw [sp, niceAll_append, Bool.and_eq_true] at z
            simp only [niceAll, Bool.and_eq_true] at z
            exact ⟨z.1, z.2.2⟩
          have ndj : nice e dj = true := niceAll_iff.mp hnA dj (List.mem_of_getElem? hdj)
          have dsp : PyData.depthAll ds = max (PyData.depthAll (ds.take j)) (max dj.depth (PyData.depthAll (ds.drop (j + 1)))) := by
            have z := congrArg PyData.depthAll sp
            rw [depthAll_append] at z
            simpa only [PyData.depthAll] using z
          have ct : cutV xs none (some (j : Int)) = xs.take j := cut_to xs j (by omega)
          have cf : cutV xs (some ((j : Int) + 1)) none = xs.drop (j + 1) := cut_from xs (j + 1) (by omega)
          have cf0 : cutV xs (some (j : Int)) none = xs.drop j := cut_from xs j (by omega)
          have tl : (xs.take j).length ≤ ds.length := by rw [List.length_take]; omega
          have dl : ∀ i, (xs.drop i).length ≤ ds.length := fun i => by rw [List.length_drop]; omega
          refine ⟨_, _, rfl, ?_⟩
          -- one left out
          refine ⟨_, rfl, rfl, _, rfl, ite2 (fun _ => ?_) (fun _ => ?_)⟩
          · refine ⟨_, rfl, _, rfl, _, rfl, a, xs, rfl, hx2, fun t1 J1 c1 s1 => ?_⟩
            refine ⟨_, rfl, _, rfl, _, _, rfl, rfl, _, rfl, a, xs, rfl, sameT s1 hx2, fun t2 J2 c2 s2 => ?_⟩
            rw [ct] at c1
            rw [cf] at c2
            have dl' := dl (j + 1)
            refine ⟨t1, t2, _, _, rfl, rfl, sameT s2 c1, c2, by omega, fun t J3 c3 s3 => ?_⟩
            have S3 := (s1.trans s2).trans s3
            have KS : Keep p H2 J3 := Keep.of_same S3
            refine k _ _ J3 (n1 + 2) (dt_of (D2.of_same S3) c3 (dpAll_append (dpAll_take j (KS.all hal2)) (dpAll_drop (j + 1) (KS.all hal2)))) (Bent.tup ?_ ?_ ?_) (by omega) (D2.of_same S3) (K2.trans KS)
            · rw [niceAll_append, nsp.1, nsp.2]
              rfl
            · rw [wtAll_append]
              omega
            · rw [depthAll_append]
              omega
          -- one told twice
          refine ⟨_, rfl, rfl, _, rfl, ite2 (fun _ => ?_) (fun _ => ?_)⟩
          · obtain ⟨xj, hxj⟩ : ∃ xj, xs[j]? = some xj := ⟨_, List.getElem?_eq_getElem (by omega)⟩
            refine ⟨_, rfl, _, rfl, _, rfl, a, xs, rfl, hx2, fun t1 J1 c1 s1 => ?_⟩
            refine ⟨_, rfl, _, rfl, a, xs, (j : Int), xj, rfl, rfl, sameT s1 hx2, atI_nat hxj, by show 1 ≤ sizeLine; decide, fun t2 h2 => ?_⟩
            have s2 : Same J1 (upd J1 t2 (.tup [xj])) := same_new h2
            rw [ct] at c1
            refine ⟨t1, t2, _, _, rfl, rfl, sameT s2 c1, SqT.of upd_same, by rw [List.length_singleton]; omega, fun t3 J3 c3 s3 => ?_⟩
            refine ⟨_, rfl, _, rfl, _, rfl, a, xs, rfl, sameT ((s1.trans s2).trans s3) hx2, fun t4 J4 c4 s4 => ?_⟩
            rw [cf0] at c4
            have dl' := dl j
            refine ⟨t3, t4, _, _, rfl, rfl, sameT s4 c3, c4, by rw [List.length_append, List.length_singleton]; omega, fun t J5 c5 s5 => ?_⟩
            have S5 := ((((s1.trans s2).trans s3).trans s4).trans s5)
            have KS : Keep p H2 J5 := Keep.of_same S5
            have al5 := KS.all hal2
            obtain ⟨dj', hdj', xdj⟩ := dpAll_get al5 hxj
            have ej : dj' = dj := Option.some.inj (hdj'.symm.trans hdj)
            rw [ej] at xdj
            have dr : ds.drop j = dj :: ds.drop (j + 1) := by
              rw [← List.getElem_cons_drop hj]
              exact congrArg (· :: _) (List.getElem?_eq_some_iff.mp hdj).2
            have dd := al5
            refine k _ _ J5 (n1 + 2) (dt_of (D2.of_same S5) c5 (dpAll_append (dpAll_append (dpAll_take j al5) (.cons xdj .nil)) (dpAll_drop j al5))) (Bent.tup ?_ ?_ ?_) (by omega) (D2.of_same S5) (K2.trans KS)
            · rw [niceAll_append, niceAll_append, dr, nsp.1]
              simp only [niceAll, nsp.2, nice_more (by omega : e ≤ e + 1) dj ndj, Bool.and_self]
            · rw [wtAll_append, wtAll_append, dr]
              simp only [wtAll]
              omega
            · rw [depthAll_append, depthAll_append, dr]
              simp only [PyData.depthAll]
              omega
          -- turned about
          refine ⟨_, rfl, rfl, _, rfl, ite2 (fun _ => ?_) (fun _ => ?_)⟩
          · refine ⟨_, rfl, a, xs, rfl, hx2, fun t ht => ?_⟩
            have KS : Keep p H2 (upd H2 t (.tup xs.reverse)) := Keep.new ht
            refine k _ _ _ (n1 + 2) (dt_of (D2.put ht) (SqT.of upd_same) (dpAll_reverse (KS.all hal2))) (Bent.tup (niceAll_reverse hnA1) ?_ ?_) (by omega) (D2.put ht) (K2.trans KS)
            · rw [wtAll_reverse]
              omega
            · rw [depthAll_reverse]
              omega
          -- a list
          refine ⟨_, rfl, rfl, _, rfl, ite2 (fun _ => ?_) (fun _ => ?_)⟩
          · refine ⟨_, rfl, a, xs, rfl, .inr hx2, fun t ht => ?_⟩
            refine k _ (.list ds) _ (n1 + 2) (dt_lst (D2.ne_new ht) ht hal2) ⟨by simpa only [nice] using hnA1, by simp only [wt]; omega, by simp only [PyData.depth]; omega⟩ (by omega) (D2.put ht) (K2.trans (Keep.new ht))
          -- one bent in its turn
          · obtain ⟨xj, hxj⟩ : ∃ xj, xs[j]? = some xj := ⟨_, List.getElem?_eq_getElem (by omega)⟩
            refine ⟨_, rfl, _, rfl, _, rfl, a, xs, rfl, hx2, fun t1 J1 c1 s1 => ?_⟩
            have D3 := D2.of_same s1
            have K3 : Keep p H2 J1 := Keep.of_same s1
            obtain ⟨dj', hdj', xdj⟩ := dpAll_get (K3.all hal2) hxj
            have ej : dj' = dj := Option.some.inj (hdj'.symm.trans hdj)
            rw [ej] at xdj
            rw [ct] at c1
            refine ⟨_, rfl, _, rfl, _, rfl, a, xs, (j : Int), xj, rfl, rfl, sameT s1 hx2, atI_nat hxj, _, rfl, _, _, rfl, rfl, ?_⟩
            refine ⟨p, xj, dj, m - 1, n1 + 2, e, rfl, xdj, ndj, e0, e1, by omega, by omega, by omega, by omega, D3, by omega, fun v' d' J2 n' hd' bd hn' D4 K4 => ?_⟩
            refine ⟨by show 1 ≤ sizeLine; decide, fun t2 h2 => ?_⟩
            obtain ⟨_, _, _, _, hp3, _⟩ := id D3
            have c1' : SqT K J2 t1 (xs.take j) := sameT off_in (sameT K4.s (tup_off hp3 c1))
            have hx4 : SqT K J2 a xs := sameT off_in (sameT K4.s (tup_off hp3 (sameT s1 hx2)))
            have s2 : Same J2 (upd J2 t2 (.tup [v'])) := same_new h2
            refine ⟨t1, t2, _, _, rfl, rfl, sameT s2 c1', SqT.of upd_same, by rw [List.length_singleton]; omega, fun t3 J3 c3 s3 => ?_⟩
            refine ⟨_, rfl, _, rfl, _, _, rfl, rfl, _, rfl, a, xs, rfl, sameT (s2.trans s3) hx4, fun t4 J4 c4 s4 => ?_⟩
            rw [cf] at c4
            have dl' := dl (j + 1)
            refine ⟨t3, t4, _, _, rfl, rfl, sameT s4 c3, c4, by rw [List.length_append, List.length_singleton]; omega, fun t J5 c5 s5 => ?_⟩
            have S5 := (((s2.trans s3).trans s4).trans s5)
            have KS : Keep p J2 J5 := Keep.of_same S5
            have al5 := KS.all (K4.all (K3.all hal2))
            refine k _ _ J5 n' (dt_of (D4.of_same S5) c5 (dpAll_append (dpAll_append (dpAll_take j al5) (.cons (KS.dt hd') .nil)) (dpAll_drop (j + 1) al5))) (Bent.tup ?_ ?_ ?_) (by omega) (D4.of_same S5) (((K2.trans K3).trans K4).trans KS)
            · rw [niceAll_append, niceAll_append, nsp.1, nsp.2]
              simp only [niceAll, bd.ni, Bool.and_self]
            · have := bd.we
              rw [wtAll_append, wtAll_append]
              simp only [wtAll]
              omega
            · have := bd.de
              rw [depthAll_append, depthAll_append]
              simp only [PyData.depthAll]
              omega
end

/-! ### the places at which a row of numbers changes -/
def changesP (ns : List Int) (i : Nat) : Bool := ns[i + 1]? != ns[i]?
def changesI (ns : List Int) : List Int := ((List.range (ns.length - 1)).filter (changesP ns)).map fun i : Nat => 1 + (i : Int)

/-! ### where a course changes -/
def sp_changes (K : PySem.W.Frag) (tb : Addr) : Sp := fun vs H Q _ => ∃ (a : Addr) (ns : List Int), vs = [.ref a] ∧ SqT K H a (ns.map V.int) ∧ ns.length ≤ sizeLine ∧ GxR.TabG H tb ∧
  ∀ (t : Addr) (J : Hp), Grow H J → J t = some (.tup ((changesI ns).map V.int)) → Q (.ref t) J
section
variable {P : Program} {w : World} {K : PySem.W.Frag} {mg : Str → Option Value} {base : Heap}
theorem ok_changes (T : Txt K mg) (TB : GxR.TabB base mg T.c_changes_of T.p_changes_of) : FnOk P w K mg base CX0 2 T.a_changes_of T.d_changes_of ["course"] (sp_changes K T.p_changes_of) := by
  refine Fun.okC T.F_changes_of T.h_changes_of sc_changes_of (fun vs H Q E h => ?_) (fun A outer s H vs Q E hr h => ?_)
  · obtain ⟨a, ns, rfl, _⟩ := h
    rfl
  · obtain ⟨a, ns, rfl, hx, hl, hT, k⟩ := h
    refine ⟨_, (pss_one (ps_ret (pe_tupG (c := T.c_changes_of) (P := T.p_changes_of) hr (by rfl) T.m_tuple TB rfl ⟨rfl, rfl, by decide +kernel, rfl, rfl, gen_free (by decide +kernel)⟩ (pe_callTy (T := "range") cr_rangeTwo (by rfl) T.m_range (by decide +kernel) (pa_cons pe_int (pa_cons (pe_callB (id := "len") call_len_seq (by rfl) T.m_len (by decide +kernel) (pa_cons (pv 0) pa_nil)) pa_nil))) (fun _ => rfl) rfl))), ?_⟩
    refine ⟨_, rfl, a, _, rfl, .inr hx, 1, _, rfl, fun r hr => ?_⟩
    have g1 : Grow H (upd H r (.rng 1 ((ns.map V.int).length : Int))) := Grow.new hr
    have el : (((ns.map V.int).length : Int) - 1).toNat = ns.length - 1 := by rw [List.length_map]; omega
    have hl' : (ns.map V.int).length ≤ sizeLine := by rw [List.length_map]; exact hl
    have l63 : (ns.length : Int) < 2 ^ 62 := by
      have h9 : (sizeLine : Int) < 2 ^ 62 := by decide
      omega
    refine ⟨r, 1, _, changesP ns, fun i => 1 + (i : Int), rfl, upd_same, by decide, by decide, by omega, by rw [List.length_map]; exact l63, by rw [el]; omega, g1.t.tab hT, ?_, fun t H2 hB ht => ?_⟩
    · intro pins s1 I1
      obtain ⟨u, c, ru, hc, hcell⟩ := Inv.freeAt (i := 0) (x := "course") I1 rfl rfl rfl
      have eu : u = .ref a := ru
      subst eu
      obtain ⟨its, rv, ht, _⟩ := I1.tuple (g1.tup hx)
      obtain ⟨ps, hps, _⟩ := g1.t.tab hT
      have hP := I1.hok _ _ hps
      intro cenv A' E' i t s2 m2 hi hsc hcl hA hns hm2 hk
      rw [el] at hi
      have hkind : cenv.scope.kind = .function := by rw [hsc]
      have ht2 : IsTup s2.heap a its.toArray := by
        obtain ⟨o, ho, hc1, n, hd⟩ := ht
        refine ⟨o, hk a o (fun z => ?_) ho, hc1, n, hd⟩
        rw [z, hP] at ho
        cases ho
        cases hd
      have hcell2 : s2.heap.IsCell c (some (.ref a)) := by
        obtain ⟨o, ho, hd⟩ := hcell
        refine ⟨o, hk c o (fun z => ?_) ho, hd⟩
        rw [z, hP] at ho
        cases ho
        cases hd
      have hcc : cenv.cells.lookup ("course" : Str) = some c := by rw [hcl]; exact clo_at hc _ _ (Or.inl (by decide +kernel))
      have gc : ∀ p : Pos, GV P w A' cenv s2 (.Name "course" p) (· = .ref a) := fun p => gv_free hkind (by rw [hsc]; rfl) hcc hcell2 rfl
      have gm : ∀ p : Pos, GV P w A' cenv s2 (.Name "moment" p) (IsI (1 + (i : Int))) := fun p => gv_loc hkind (by rw [hsc]; rfl) hns hm2 ⟨_, rfl⟩
      have at1 : atI (ns.map V.int) (1 + (i : Int)) = some (.int ns[i + 1]) := by
        rw [show (1 + (i : Int)) = ((i + 1 : Nat) : Int) by omega]
        refine atI_nat ?_
        rw [List.getElem?_map, List.getElem?_eq_getElem (by omega)]
        rfl
      have at0 : atI (ns.map V.int) (1 + (i : Int) - 1) = some (.int ns[i]) := by
        rw [show (1 + (i : Int) - 1) = (i : Int) by omega]
        refine atI_nat ?_
        rw [List.getElem?_map, List.getElem?_eq_getElem (by omega)]
        rfl
      have ep : changesP ns i = (ns[i + 1] != ns[i]) := by
        unfold changesP
        rw [List.getElem?_eq_getElem (by omega), List.getElem?_eq_getElem (by omega)]
        rfl
      refine ⟨?_, fun _ => ?_⟩
      · rw [ep]
        exact gt_ne (gv_ix (gc _) (gm _) ht2 rv hl' at1 (fun u hu => hu) (fun _ _ => rfl)) (gv_ix (gc _) (gv_sub (gm _) gv_int) ht2 rv hl' at0 (fun u hu => hu) (fun _ _ => rfl)) (by with_unfolding_all rfl) E'
      · exact (gm _) _ _ (GxR.keeps_refl _)
    · rw [el] at *
      exact k t _ ((g1.trans (Grow.tabbed (g1.t.tab hT) hB)).write (Grow.free (g1.trans (Grow.tabbed (g1.t.tab hT) hB)) ht)) (by rw [upd_same]; unfold changesI; rw [List.map_map]; rfl)
end

/-! ### the law's own word on changes and rest -/
def gapsB (r : Int) (cs : List Int) : Bool := (cs.zip (cs.drop 1)).all fun p => !decide (p.2 - p.1 < r)
def keptB (ns : List Int) (r : Int) : Bool := gapsB r (changesI ns)
def sp_kept (K : PySem.W.Frag) : Sp := fun vs H Q _ => ∃ (a : Addr) (r : Int) (ns : List Int), vs = [.ref a, .int r] ∧ SqA K H a (ns.map V.int) ∧ ns.length ≤ 4000 ∧ ∀ J, Same H J → Q (.bl (keptB ns r)) J
theorem small1000' {n : Nat} (h : n ≤ 5000) : n < sizeLine := Nat.lt_of_le_of_lt h (by decide)
theorem int_nat {ns : List Int} {i : Nat} {z : Int} (h : ns[i]? = some z) : atI (ns.map V.int) (i : Int) = some (.int z) := by
  refine atI_nat ?_
  rw [List.getElem?_map, h]
  rfl
theorem cut_one (xs : List V) : cutV xs (some 1) none = xs.drop 1 := by
  cases xs with
  | nil => rfl
  | cons x r => exact cut_from (x :: r) 1 (by rw [List.length_cons]; omega)
/-- the first i places at which it changes -/
def chg (ns : List Int) (i : Nat) : List Int := ((List.range i).filter (changesP ns)).map fun i : Nat => 1 + (i : Int)
theorem chg_len (ns : List Int) (i : Nat) : (chg ns i).length ≤ i := by
  unfold chg
  rw [List.length_map]
  exact Nat.le_trans (List.length_filter_le _ _) (by rw [List.length_range]; exact Nat.le_refl _)
theorem chg_succ (ns : List Int) (i : Nat) : chg ns (i + 1) = if changesP ns i = true then chg ns i ++ [1 + (i : Int)] else chg ns i := by
  unfold chg
  rw [List.range_succ, List.filter_append, List.map_append]
  split
  · rename_i h
    simp [h]
  · rename_i h
    simp [h]
theorem changesP_at {ns : List Int} {i : Nat} {x y : Int} (hx : ns[i + 1]? = some x) (hy : ns[i]? = some y) : changesP ns i = (x != y) := by
  unfold changesP
  rw [hx, hy]
  rfl
section
variable {P : Program} {w : World} {K : PySem.W.Frag} {mg : Str → Option Value} {base : Heap}
theorem ok_kept (T : Txt K mg) : FnOk P w K mg base CX0 1 T.a_rest_kept T.d_rest_kept ["_law_course_here", "_law_rest"] (sp_kept K) := by
  refine T.F_rest_kept.ok sc_rest_kept (fun vs H Q E h => ?_) (fun cdv A outer s H vs Q E hr h => ?_)
  · obtain ⟨a, r, ns, rfl, _⟩ := h
    rfl
  · obtain ⟨a, r, ns, rfl, hx, hl, k⟩ := h
    refine ⟨_, (pss_cons (ps_setLc (i := 2) (own := [("_law_moment", 3)]) (g := gName 3) (by rfl) sc_rest_kept.nd rfl rfl (sw_true rfl rfl rfl (by decide +kernel)) (pi_range2 (by rfl) T.m_range (pa_cons pe_int (pa_cons (pe_callB (id := "len") call_len_seq (by rfl) T.m_len (by decide +kernel) (pa_cons (pv 0) pa_nil)) pa_nil))) (blkOk_by (own := [("_law_moment", 3)]) (N := ["_law_course_here", "_law_rest", "_law_some", "_law_moment", "_law_one_here", "_law_other"]) (sc := defScope s_rest_kept) (by decide +kernel)) (fun _ _ _ _ _ => (pg_name (i := 3) sc_rest_kept.nd rfl (Or.inl rfl))) (fun _ _ _ _ _ => (pts_one (pt_cmpR op_ne (pe_ix (ixSK K rfl) (pv 0) (pv 3) (fun _ _ => rfl)) (pe_ix (ixSK K rfl) (pv 0) (pe_op op_sub (pv 3) pe_int) (fun _ _ => rfl)) (nomark _)))) (fun _ _ _ _ _ => (pv 3)))
      (pss_one (ps_ret (pe_cmpR (op_eqD hr.units) (pe_lc (own := [("_law_one_here", 4), ("_law_other", 5)]) (g := gTup K 2 (gCons (gName 4) (gCons (gName 5) gNil))) (by rfl) sc_rest_kept.nd (pi_zip (by rfl) T.m_zip (pa_cons (pv 2) (pa_cons (pe_slice sl_list (pv 2) (po_some pe_int) po_none) pa_nil))) (blkOk_by (own := [("_law_one_here", 4), ("_law_other", 5)]) (N := ["_law_course_here", "_law_rest", "_law_some", "_law_moment", "_law_one_here", "_law_other"]) (sc := defScope s_rest_kept) (by decide +kernel)) (fun _ _ _ _ _ => (pg_pairK K (i := 4) (j := 5) rfl rfl sc_rest_kept.nd rfl (Or.inl rfl) rfl (Or.inl rfl))) (fun _ _ _ _ _ => (pts_one (pt_cmpR op_lt (pe_op op_sub (pv 5) (pv 4)) (pv 1) (nomark _)))) (fun _ _ _ _ _ => pe_int)) (pe_lst pa_nil) (nomark _))))), ?_⟩
    have hl' : (ns.map V.int).length = ns.length := List.length_map ..
    refine ⟨_, rfl, a, _, rfl, hx, ?_⟩
    refine ⟨1, _, rfl, ⟨by decide, by decide, by omega, by omega⟩, fun F hF => ?_⟩
    rw [hl']
    refine lc_range (lo := 1) (n := ((ns.length : Int) - 1).toNat) (fun i J => J = upd H F (.lst ((chg ns i).map V.int))) rfl ?_ ?_
    · rintro i J hi rfl
      have hx' := hx.same (same_new (o := .lst ((chg ns i).map V.int)) hF)
      refine ⟨rfl, ?_⟩
      have g1 : ns[i + 1]? = some ns[i + 1] := List.getElem?_eq_getElem (by omega)
      have g0 : ns[i]? = some ns[i] := List.getElem?_eq_getElem (by omega)
      refine ⟨_, rfl, _, rfl, rIx_of hx' (show atI (ns.map V.int) (1 + (i : Int)) = _ by rw [show (1 + (i : Int)) = ((i + 1 : Nat) : Int) by omega]; exact int_nat g1) ?_⟩
      refine ⟨_, rfl, _, rfl, _, _, rfl, rfl, rIx_of hx' (show atI (ns.map V.int) (1 + (i : Int) - 1) = _ by rw [show (1 + (i : Int) - 1) = (i : Int) by omega]; exact int_nat g0) ?_⟩
      refine ⟨rfl, _, rfl, ?_⟩
      have es := chg_succ ns i
      have le := chg_len ns i
      rw [show (!decide (V.int ns[i + 1] = V.int ns[i])) = changesP ns i by rw [dec_int, changesP_at g1 g0]; rfl]
      refine ite2 (fun e => ?_) (fun e => ?_)
      · rw [if_pos e] at es
        refine ⟨_, rfl, _, upd_same, small1000' (by rw [List.length_map]; omega), ?_⟩
        rw [upd_upd, es, List.map_append]
        rfl
      · rw [if_neg e] at es
        rw [es]
    · rintro J rfl
      have ec : chg ns ((ns.length : Int) - 1).toNat = changesI ns := by
        have : ((ns.length : Int) - 1).toNat = ns.length - 1 := by omega
        rw [this]
        rfl
      rw [ec]
      have s1 : Same H (upd H F (.lst ((changesI ns).map V.int))) := same_new hF
      have cl : (changesI ns).length ≤ ns.length := Nat.le_trans (chg_len ns (ns.length - 1)) (by omega)
      refine ⟨_, rfl, _, rfl, 1, rfl, F, _, rfl, SqL.of upd_same, fun c hc => ?_⟩
      have e1 : cutV ((changesI ns).map V.int) (some 1) none = ((changesI ns).drop 1).map V.int := by rw [cut_one, List.map_drop]
      have e2 : keptB ns r = gapsB r (changesI ns) := rfl
      rw [e2] at k
      generalize changesI ns = cs at *
      have hFc : F ≠ c := ne_of_none upd_same hc
      have s2 := s1.trans (same_new (o := .lst (cutV (cs.map V.int) (some 1) none)) hc)
      generalize hH2 : upd (upd H F (.lst (cs.map V.int))) c (.lst (cutV (cs.map V.int) (some 1) none)) = H2 at *
      have hF2 : H2 F = some (.lst (cs.map V.int)) := by rw [← hH2, upd_ne hFc]; exact upd_same
      have hc2 : H2 c = some (.lst ((cs.drop 1).map V.int)) := by rw [← hH2, upd_same, e1]
      refine ⟨F, c, cs.map V.int, (cs.drop 1).map V.int, rfl, SqL.of hF2, SqL.of hc2, fun D hD => ?_⟩
      let f : Int × Int → Bool := fun p => !decide (p.2 - p.1 < r)
      have zl : (cs.zip (cs.drop 1)).length = min (cs.map V.int).length ((cs.drop 1).map V.int).length := by rw [List.length_zip, List.length_map, List.length_map]
      refine lc_it (walk_zip zl) (fun i J => Same H2 J ∧ ∃ n, J D = some (.lst ((List.replicate n (1 : Int)).map V.int)) ∧ n ≤ i ∧ (n = 0 ↔ ((cs.zip (cs.drop 1)).take i).all f = true)) ⟨same_new hD, 0, upd_same, Nat.le_refl _, by simp⟩
        (fun i J _ ⟨S, _⟩ => ⟨SqL.of (S _ _ hF2), SqL.of (S _ _ hc2)⟩) ?_ ?_
      · rintro i v J J' hi ⟨S, n, hDn, hn, iff⟩ ⟨Tp, x', y', rfl, hT, rfl, hx', hy'⟩
        have ei : (cs.zip (cs.drop 1))[i]? = some ((cs.zip (cs.drop 1))[i]) := List.getElem?_eq_getElem hi
        generalize (cs.zip (cs.drop 1))[i] = pr at ei
        obtain ⟨u, y⟩ := pr
        have ez := List.getElem?_zip_eq_some.mp ei
        have hx' : (cs.map V.int)[i]? = some x' := hx'
        have hy' : ((cs.drop 1).map V.int)[i]? = some y' := hy'
        rw [List.getElem?_map, ez.1] at hx'
        rw [List.getElem?_map, ez.2] at hy'
        cases hx'
        cases hy'
        have TD : Tp ≠ D := (ne_of_none hDn hT).symm
        have S' : Same H2 (upd J Tp (.tup [.int u, .int y])) := S.trans (same_new hT)
        have tk : (cs.zip (cs.drop 1)).take (i + 1) = (cs.zip (cs.drop 1)).take i ++ [(u, y)] := by rw [List.take_add_one, ei]; rfl
        refine ⟨Tp, _, rfl, SqT.of upd_same, rfl, _, _, rfl, _, _, rfl, rfl, rfl, ?_⟩
        refine ⟨_, rfl, _, rfl, _, _, rfl, rfl, _, rfl, _, _, rfl, rfl, _, rfl, ?_⟩
        refine ite2 (fun e => ?_) (fun e => ?_)
        · refine ⟨_, by rw [upd_ne TD.symm]; exact hDn, small1000' (by rw [List.length_map, List.length_replicate]; rw [zl, List.length_map] at hi; omega), fun b o hb => ?_, n + 1, ?_, by omega, ?_⟩
          · rw [upd_ne (ne_of_none hb hD)]
            exact S' b o hb
          · rw [upd_same, List.replicate_succ', List.map_append]
            rfl
          · rw [tk, List.all_append]
            simp only [List.all_cons, List.all_nil, Bool.and_true, f, e]
            simp
        · refine ⟨S', n, by rw [upd_ne TD.symm]; exact hDn, by omega, ?_⟩
          rw [tk, List.all_append, iff]
          have e' : decide (y - u < r) = false := by simpa using e
          simp only [List.all_cons, List.all_nil, Bool.and_true, f, e', Bool.not_false]
      · rintro J ⟨S, n, hDn, hn, iff⟩
        refine ⟨Nat.zero_le _, fun q hq => ?_⟩
        have sq : Same J (upd J q (.lst [])) := same_new hq
        refine ⟨.list ((List.replicate n (1 : Int)).map PyData.int), .list [], .lst (SqL.of (sq _ _ hDn)) (ints_dp _), .lst (SqL.of upd_same) .nil, ints_shaped _, by decide, ?_⟩
        rw [ints_nil]
        have e3 : (List.replicate n (1 : Int)).isEmpty = gapsB r cs := by
          rw [List.take_of_length_le (Nat.le_refl _)] at iff
          unfold gapsB
          rw [Bool.eq_iff_iff, ← iff]
          simp
        rw [e3]
        exact k _ ((s2.trans S).trans sq)
end

/-! ### a drawn course -/
theorem atI_last {α : Type} {xs : List α} {v : α} (h : xs.getLast? = some v) : atI xs (-1) = some v := by
  unfold atI ixN
  have h0 : 0 < xs.length := by
    cases xs with
    | nil => cases h
    | cons _ _ => simp
  rw [if_neg (by decide), if_pos (by omega), Option.bind_some]
  rw [List.getLast?_eq_getElem?] at h
  rw [show ((-1 : Int) + (xs.length : Int)).toNat = xs.length - 1 by omega]
  exact h
def InZ (z : Int) (ns : List Int) : Prop := ∀ x ∈ ns, 0 ≤ x ∧ x < z
theorem last_in {z : Int} {ns : List Int} (h : InZ z ns) (n0 : ns ≠ []) : ∃ x, (ns.map V.int).getLast? = some (.int x) ∧ ns.getLast? = some x ∧ 0 ≤ x ∧ x < z := by
  refine ⟨ns.getLast n0, ?_, List.getLast?_eq_some_getLast n0, h _ (List.getLast_mem n0)⟩
  rw [List.getLast?_map, List.getLast?_eq_some_getLast n0]
  rfl
def sp_course (K : PySem.W.Frag) : Sp := fun vs H Q _ => ∃ (p th : Addr) (z r g many : Int) (n : Nat), vs = [.ref p, .ref th, .int many] ∧ H th = some (.tup [.int z, .int r, .int g]) ∧ 2 ≤ z ∧ z ≤ 4 ∧ 1 ≤ many ∧ many ≤ 100 ∧ Deck K H p n ∧ n < 500000 ∧
  ∀ (ns : List Int) (t : Addr) (J : Hp) (m : Nat), (ns.length : Int) = many → InZ z ns → J t = some (.tup (ns.map V.int)) → H t = none → n ≤ m → m ≤ n + 202 → Deck K J p m → Keep p H J → Q (.ref t) J
section
variable {P : Program} {w : World} {K : PySem.W.Frag} {mg : Str → Option Value} {base : Heap}
theorem ok_course (T : Txt K mg) : FnOk P w K mg base CX0 3 T.a_course T.d_course ["_law_deck_here", "_law_house_here", "_law_many"] (sp_course K) := by
  have G_draw : FnOk P w K mg base CX0 1 T.a_draw T.d_draw ["_law_deck_here", "_law_many"] (sp_draw K) := ok_draw T
  have G_one : FnOk P w K mg base CX0 2 T.a_one T.d_one ["_law_deck_here", "_law_items"] (sp_one K) := ok_one T
  have G_rest_kept : FnOk P w K mg base CX0 1 T.a_rest_kept T.d_rest_kept ["_law_course_here", "_law_rest"] (sp_kept K) := ok_kept T
  refine T.F_course.ok sc_course (fun vs H Q E h => ?_) (fun cdv A outer s H vs Q E hr h => ?_)
  · obtain ⟨p, th, z, r, g, many, n, rfl, _⟩ := h
    rfl
  · obtain ⟨p, th, z, r, g, many, n, rfl, ht, z2, z4, m1, m100, D, hn, k⟩ := h
    refine ⟨_, (pss_cons (ps_par (i := 3) (j := 4) (by rfl) sc_course.nd rfl rfl (by decide) rfl rfl (pa_cons (pe_lst (pa_cons (pe_call G_draw (hr.mono (by omega)) (by rfl) T.g_draw T.F_draw.kp T.b_draw .nil pass0 (pa_cons (pv 0) (pa_cons (pe_ix ix_tup (pv 1) pe_int (fun _ _ => rfl)) pa_nil))) pa_nil)) (pa_cons (pe_call G_one (hr.mono (by omega)) (by rfl) T.g_one T.F_one.kp T.b_one .nil pass0 (pa_cons (pv 0) (pa_cons (pe_lst (pa_cons pe_int (pa_cons pe_int (pa_cons pe_int pa_nil)))) pa_nil))) pa_nil)) (by rfl))
      (pss_cons (ps_for PassesOwn.never rfl (pi_range1 (by rfl) T.m_range (pa_cons (pe_op op_sub (pv 2) pe_int) pa_nil)) (pg_name (i := 5) sc_course.nd rfl (Or.inl rfl))
        (pss_cons (ps_set (i := 6) sc_course.nd rfl (Or.inl rfl) (pe_ix ix_list (pv 3) (pe_un un_neg pe_int) (fun _ _ => rfl)))
      (Evl.pss_cut (ps_if (pt_cmpR op_eq (pe_call G_draw (hr.mono (by omega)) (by rfl) T.g_draw T.F_draw.kp T.b_draw .nil pass0 (pa_cons (pv 0) (pa_cons (pv 4) pa_nil))) pe_int (nomark _))
        (pss_one (ps_set (i := 6) sc_course.nd rfl (Or.inl rfl) (pe_call G_draw (hr.mono (by omega)) (by rfl) T.g_draw T.F_draw.kp T.b_draw .nil pass0 (pa_cons (pv 0) (pa_cons (pe_ix ix_tup (pv 1) pe_int (fun _ _ => rfl)) pa_nil)))))
        pss_nil)
      (Evl.pss_cut (ps_if (pt_not (pt_val (pe_call G_rest_kept (hr.mono (by omega)) (by rfl) T.g_rest_kept T.F_rest_kept.kp T.b_rest_kept .nil pass0 (pa_cons (pe_op op_cat (pv 3) (pe_lst (pa_cons (pv 6) pa_nil))) (pa_cons (pe_ix ix_tup (pv 1) pe_int (fun _ _ => rfl)) pa_nil)))))
        (pss_one (ps_set (i := 6) sc_course.nd rfl (Or.inl rfl) (pe_ix ix_list (pv 3) (pe_un un_neg pe_int) (fun _ _ => rfl))))
        pss_nil)
      (pss_one (ps_expr (pe_bm PySem.F.plainAttrs_list PySem.F.slot_list_append PySem.F.type_list_append mt_append (pv 3) (pa_cons (pv 6) pa_nil))))))))
      (pss_one (ps_ret (pe_callTy (T := "tuple") call_tuple_of (by rfl) T.m_tuple (by decide +kernel) (pa_cons (pv 3) pa_nil)))))), ?_⟩
    have th0 : th ≠ p := D.ne_tup ht
    refine ⟨_, rfl, _, rfl, th, _, 0, _, rfl, rfl, SqT.of ht, rfl, p, z, n, rfl, by omega, by omega, D, by omega, fun x0 J0 x1 x2 D0 K0 => ?_⟩
    refine ⟨by show 1 ≤ sizeLine; decide, fun F hF => ?_⟩
    have FP : F ≠ p := D0.ne_new hF
    refine ⟨_, rfl, by show 3 ≤ sizeLine; decide, fun l hl => ?_⟩
    refine ⟨p, l, _, n + 1, rfl, SqL.of upd_same, (D0.put hF).ne_new hl, by show 0 < 3; decide, by show 3 < 100000; decide, (D0.put hF).put hl, by omega, fun j x3 J1 hx3 D1 K1 => ?_⟩
    obtain ⟨often, rfl, o1, o3⟩ : ∃ y : Int, x3 = .int y ∧ 1 ≤ y ∧ y ≤ 3 := by
      have m := List.mem_of_getElem? hx3
      simp only [List.mem_cons, List.not_mem_nil, or_false] at m
      rcases m with m | m | m
      · exact ⟨_, m, by decide, by decide⟩
      · exact ⟨_, m, by decide, by decide⟩
      · exact ⟨_, m, by decide, by decide⟩
    refine ⟨_, _, rfl, ?_⟩
    have K01 : Keep p J0 J1 := ((Keep.new hF).trans (Keep.new hl)).trans K1
    have K0H : Keep p H J0 := K0
    have hF1 : J1 F = some (.lst ([x0].map V.int)) := by
      refine K1.at FP ?_
      rw [upd_ne (ne_of_none (b := l) upd_same hl), upd_same]
      rfl
    refine ⟨_, rfl, _, _, rfl, rfl, _, rfl, by omega, by omega, for_range (lo := 0) (n := (many - 1).toNat) (fun i σ J => ∃ (y5 y6 : Option V) (ns : List Int) (m : Nat), σ = [some (.ref p), some (.ref th), some (.int many), some (.ref F), some (.int often), y5, y6] ∧ ns.length = i + 1 ∧ InZ z ns ∧ J F = some (.lst (ns.map V.int)) ∧ n + 2 ≤ m ∧ m ≤ n + 2 + 2 * i ∧ Deck K J p m ∧ Keep p J0 J)
      ⟨none, none, [x0], n + 2, rfl, rfl, fun x hx => by rw [List.mem_singleton.mp hx]; exact ⟨x1, x2⟩, hF1, Nat.le_refl _, by omega, D1, K01⟩ ?_ ?_⟩
    · rintro i σ J hi ⟨y5, y6, ns, m, rfl, hln, hz, hF', m1', m2', DJ, KJ⟩
      have n0 : ns ≠ [] := fun e => by rw [e] at hln; cases hln
      obtain ⟨la, ela, _, la0, laz⟩ := last_in hz n0
      have thJ : J th = some (.tup [.int z, .int r, .int g]) := (K0.trans KJ).at th0 ht
      refine ⟨_, rfl, _, rfl, F, _, -1, _, rfl, rfl, SqL.of hF', atI_last ela, ?_⟩
      refine ⟨fun σ' J' => ∃ (hd : Int) (m2 : Nat), σ' = [some (.ref p), some (.ref th), some (.int many), some (.ref F), some (.int often), some (.int (0 + (i : Int))), some (.int hd)] ∧ 0 ≤ hd ∧ hd < z ∧ m ≤ m2 ∧ m2 ≤ m + 2 ∧ Deck K J' p m2 ∧ Keep p J J', ?_, ?_⟩
      · refine ⟨_, rfl, _, rfl, p, often, m, rfl, by omega, by omega, DJ, by omega, fun q J2 q0 q1 D2 K2 => ?_⟩
        refine ⟨rfl, _, rfl, ite2 (fun _ => ?_) (fun _ => ⟨la, m + 1, rfl, la0, laz, by omega, by omega, D2, K2⟩)⟩
        refine ⟨_, rfl, _, rfl, th, _, 0, _, rfl, rfl, SqT.of (K2.at th0 thJ), rfl, p, z, m + 1, rfl, by omega, by omega, D2, by omega, fun q2 J3 q3 q4 D3 K3 => ?_⟩
        exact ⟨q2, m + 2, rfl, q3, q4, by omega, by omega, D3, K2.trans K3⟩
      · rintro σ' J' ⟨hd, m2, rfl, h0, h1, m3, m4, D2, K2⟩
        have hF2 := K2.at FP hF'
        have thJ' := K2.at th0 thJ
        refine ⟨fun σ' J3 => ∃ (hd : Int), σ' = [some (.ref p), some (.ref th), some (.int many), some (.ref F), some (.int often), some (.int (0 + (i : Int))), some (.int hd)] ∧ 0 ≤ hd ∧ hd < z ∧ Same J' J3, ?_, ?_⟩
        · refine ⟨_, rfl, _, rfl, by show 1 ≤ sizeLine; decide, fun q hq => ?_⟩
          have s1 : Same J' (upd J' q (.lst [.int hd])) := same_new hq
          refine ⟨F, q, _, _, rfl, rfl, s1 _ _ hF2, upd_same, by show (ns.map V.int).length + 1 ≤ sizeLine; exact Nat.le_of_lt (small1000 (by rw [List.length_map]; omega)), fun c hc => ?_⟩
          have s2 := s1.trans (same_new (o := .lst (ns.map V.int ++ [.int hd])) hc)
          refine ⟨_, rfl, th, _, 1, _, rfl, rfl, SqT.of (s2 _ _ thJ'), rfl, ?_⟩
          refine ⟨c, r, ns ++ [hd], rfl, .inl (SqL.of (by rw [upd_same, List.map_append]; rfl)), by rw [List.length_append, List.length_singleton]; omega, fun J4 S4 => ?_⟩
          refine ⟨_, rfl, ite2 (fun _ => ?_) (fun _ => ⟨hd, rfl, h0, h1, s2.trans S4⟩)⟩
          exact ⟨_, rfl, _, rfl, F, _, -1, _, rfl, rfl, SqL.of (S4 _ _ (s2 _ _ hF2)), atI_last ela, ⟨la, rfl, la0, laz, s2.trans S4⟩⟩
        · rintro σ' J3 ⟨hd', rfl, h0', h1', S3⟩
          have hF3 := S3 _ _ hF2
          have K3 : Keep p J0 J3 := (KJ.trans K2).trans (Keep.of_same S3)
          refine ⟨_, rfl, .inl ⟨rfl, _, SqL.of hF3⟩, _, rfl, F, _, _, rfl, rfl, hF3, small1000 (by rw [List.length_map]; omega), ?_⟩
          refine ⟨_, _, ns ++ [hd'], m2, rfl, by rw [List.length_append, List.length_singleton, hln], ?_, by rw [upd_same, List.map_append]; rfl, by omega, by omega, D0.write hF K3 (D2.of_same S3), K3.write hF FP⟩
          intro x hx
          rcases List.mem_append.mp hx with hx | hx
          · exact hz x hx
          · rw [List.mem_singleton.mp hx]
            exact ⟨h0', h1'⟩
    · rintro σ J ⟨y5, y6, ns, m, rfl, hln, hz, hF', m1', m2', DJ, KJ⟩
      refine ⟨_, rfl, F, _, rfl, .inl ⟨SqL.of hF', fun t ht' => ?_⟩⟩
      have KH : Keep p H J := K0.trans KJ
      refine k ns t _ m (by omega) hz upd_same (KH.free (DJ.ne_new ht') ht') (by omega) (by omega) (DJ.put ht') (KH.trans (Keep.new ht'))
end

/-! ### a drawn course -/
/-! ### courses that keep the rest -/
theorem changesP_at' {ns : List Int} {i : Nat} (h : i + 1 < ns.length) : changesP ns i = (ns[i + 1] != ns[i]) := changesP_at (List.getElem?_eq_getElem h) (List.getElem?_eq_getElem (by omega))
theorem changes_map {f : Int → Int} {ns : List Int} (inj : ∀ x ∈ ns, ∀ y ∈ ns, f x = f y → x = y) : changesI (ns.map f) = changesI ns := by
  unfold changesI
  rw [List.length_map]
  congr 1
  refine List.filter_congr fun i hi => ?_
  have hi' : i + 1 < ns.length := by have := List.mem_range.mp hi; omega
  rw [changesP_at' hi', changesP_at' (ns := ns.map f) (by rw [List.length_map]; exact hi')]
  simp only [List.getElem_map]
  by_cases e : ns[i + 1] = ns[i]
  · rw [e]; simp
  · have e2 : f ns[i + 1] ≠ f ns[i] := fun z => e (inj _ (List.getElem_mem _) _ (List.getElem_mem _) z)
    rw [bne_iff_ne.mpr e, bne_iff_ne.mpr e2]
theorem changes_last {ns : List Int} {la : Int} (h : ns.getLast? = some la) : changesI (ns ++ [la]) = changesI ns := by
  have n0 : 0 < ns.length := by
    cases ns with
    | nil => cases h
    | cons _ _ => simp
  rw [List.getLast?_eq_getElem?] at h
  unfold changesI
  congr 1
  rw [List.length_append, List.length_singleton, show ns.length + 1 - 1 = (ns.length - 1) + 1 by omega, List.range_succ, List.filter_append]
  have z : changesP (ns ++ [la]) (ns.length - 1) = false := by
    unfold changesP
    rw [show ns.length - 1 + 1 = ns.length by omega, List.getElem?_append_left (by omega : ns.length - 1 < ns.length), h]
    simp
  rw [List.filter_cons, z]
  simp only [List.filter_nil, List.append_nil, Bool.false_eq_true, if_false]
  refine List.filter_congr fun i hi => ?_
  have hi' : i + 1 < ns.length := by have := List.mem_range.mp hi; omega
  unfold changesP
  rw [List.getElem?_append_left hi', List.getElem?_append_left (by omega)]
theorem kept_last {ns : List Int} {la r : Int} (h : ns.getLast? = some la) : keptB (ns ++ [la]) r = keptB ns r := by unfold keptB; rw [changes_last h]
theorem kept_map {f : Int → Int} {ns : List Int} {r : Int} (inj : ∀ x ∈ ns, ∀ y ∈ ns, f x = f y → x = y) : keptB (ns.map f) r = keptB ns r := by unfold keptB; rw [changes_map inj]
def sp_courseK (K : PySem.W.Frag) : Sp := fun vs H Q _ => ∃ (p th : Addr) (z r g many : Int) (n : Nat), vs = [.ref p, .ref th, .int many] ∧ H th = some (.tup [.int z, .int r, .int g]) ∧ 2 ≤ z ∧ z ≤ 4 ∧ 1 ≤ many ∧ many ≤ 100 ∧ Deck K H p n ∧ n < 500000 ∧
  ∀ (ns : List Int) (t : Addr) (J : Hp) (m : Nat), (ns.length : Int) = many → InZ z ns → keptB ns r = true → J t = some (.tup (ns.map V.int)) → H t = none → n ≤ m → m ≤ n + 202 → Deck K J p m → Keep p H J → Q (.ref t) J
section
variable {P : Program} {w : World} {K : PySem.W.Frag} {mg : Str → Option Value} {base : Heap}
theorem ok_courseK (T : Txt K mg) : FnOk P w K mg base CX0 3 T.a_course T.d_course ["_law_deck_here", "_law_house_here", "_law_many"] (sp_courseK K) := by
  have G_draw : FnOk P w K mg base CX0 1 T.a_draw T.d_draw ["_law_deck_here", "_law_many"] (sp_draw K) := ok_draw T
  have G_one : FnOk P w K mg base CX0 2 T.a_one T.d_one ["_law_deck_here", "_law_items"] (sp_one K) := ok_one T
  have G_rest_kept : FnOk P w K mg base CX0 1 T.a_rest_kept T.d_rest_kept ["_law_course_here", "_law_rest"] (sp_kept K) := ok_kept T
  refine T.F_course.ok sc_course (fun vs H Q E h => ?_) (fun cdv A outer s H vs Q E hr h => ?_)
  · obtain ⟨p, th, z, r, g, many, n, rfl, _⟩ := h
    rfl
  · obtain ⟨p, th, z, r, g, many, n, rfl, ht, z2, z4, m1, m100, D, hn, k⟩ := h
    refine ⟨_, (pss_cons (ps_par (i := 3) (j := 4) (by rfl) sc_course.nd rfl rfl (by decide) rfl rfl (pa_cons (pe_lst (pa_cons (pe_call G_draw (hr.mono (by omega)) (by rfl) T.g_draw T.F_draw.kp T.b_draw .nil pass0 (pa_cons (pv 0) (pa_cons (pe_ix ix_tup (pv 1) pe_int (fun _ _ => rfl)) pa_nil))) pa_nil)) (pa_cons (pe_call G_one (hr.mono (by omega)) (by rfl) T.g_one T.F_one.kp T.b_one .nil pass0 (pa_cons (pv 0) (pa_cons (pe_lst (pa_cons pe_int (pa_cons pe_int (pa_cons pe_int pa_nil)))) pa_nil))) pa_nil)) (by rfl))
      (pss_cons (ps_for PassesOwn.never rfl (pi_range1 (by rfl) T.m_range (pa_cons (pe_op op_sub (pv 2) pe_int) pa_nil)) (pg_name (i := 5) sc_course.nd rfl (Or.inl rfl))
        (pss_cons (ps_set (i := 6) sc_course.nd rfl (Or.inl rfl) (pe_ix ix_list (pv 3) (pe_un un_neg pe_int) (fun _ _ => rfl)))
      (Evl.pss_cut (ps_if (pt_cmpR op_eq (pe_call G_draw (hr.mono (by omega)) (by rfl) T.g_draw T.F_draw.kp T.b_draw .nil pass0 (pa_cons (pv 0) (pa_cons (pv 4) pa_nil))) pe_int (nomark _))
        (pss_one (ps_set (i := 6) sc_course.nd rfl (Or.inl rfl) (pe_call G_draw (hr.mono (by omega)) (by rfl) T.g_draw T.F_draw.kp T.b_draw .nil pass0 (pa_cons (pv 0) (pa_cons (pe_ix ix_tup (pv 1) pe_int (fun _ _ => rfl)) pa_nil)))))
        pss_nil)
      (Evl.pss_cut (ps_if (pt_not (pt_val (pe_call G_rest_kept (hr.mono (by omega)) (by rfl) T.g_rest_kept T.F_rest_kept.kp T.b_rest_kept .nil pass0 (pa_cons (pe_op op_cat (pv 3) (pe_lst (pa_cons (pv 6) pa_nil))) (pa_cons (pe_ix ix_tup (pv 1) pe_int (fun _ _ => rfl)) pa_nil)))))
        (pss_one (ps_set (i := 6) sc_course.nd rfl (Or.inl rfl) (pe_ix ix_list (pv 3) (pe_un un_neg pe_int) (fun _ _ => rfl))))
        pss_nil)
      (pss_one (ps_expr (pe_bm PySem.F.plainAttrs_list PySem.F.slot_list_append PySem.F.type_list_append mt_append (pv 3) (pa_cons (pv 6) pa_nil))))))))
      (pss_one (ps_ret (pe_callTy (T := "tuple") call_tuple_of (by rfl) T.m_tuple (by decide +kernel) (pa_cons (pv 3) pa_nil)))))), ?_⟩
    have th0 : th ≠ p := D.ne_tup ht
    refine ⟨_, rfl, _, rfl, th, _, 0, _, rfl, rfl, SqT.of ht, rfl, p, z, n, rfl, by omega, by omega, D, by omega, fun x0 J0 x1 x2 D0 K0 => ?_⟩
    refine ⟨by show 1 ≤ sizeLine; decide, fun F hF => ?_⟩
    have FP : F ≠ p := D0.ne_new hF
    refine ⟨_, rfl, by show 3 ≤ sizeLine; decide, fun l hl => ?_⟩
    refine ⟨p, l, _, n + 1, rfl, SqL.of upd_same, (D0.put hF).ne_new hl, by show 0 < 3; decide, by show 3 < 100000; decide, (D0.put hF).put hl, by omega, fun j x3 J1 hx3 D1 K1 => ?_⟩
    obtain ⟨often, rfl, o1, o3⟩ : ∃ y : Int, x3 = .int y ∧ 1 ≤ y ∧ y ≤ 3 := by
      have m := List.mem_of_getElem? hx3
      simp only [List.mem_cons, List.not_mem_nil, or_false] at m
      rcases m with m | m | m
      · exact ⟨_, m, by decide, by decide⟩
      · exact ⟨_, m, by decide, by decide⟩
      · exact ⟨_, m, by decide, by decide⟩
    refine ⟨_, _, rfl, ?_⟩
    have K01 : Keep p J0 J1 := ((Keep.new hF).trans (Keep.new hl)).trans K1
    have K0H : Keep p H J0 := K0
    have hF1 : J1 F = some (.lst ([x0].map V.int)) := by
      refine K1.at FP ?_
      rw [upd_ne (ne_of_none (b := l) upd_same hl), upd_same]
      rfl
    refine ⟨_, rfl, _, _, rfl, rfl, _, rfl, by omega, by omega, for_range (lo := 0) (n := (many - 1).toNat) (fun i σ J => ∃ (y5 y6 : Option V) (ns : List Int) (m : Nat), σ = [some (.ref p), some (.ref th), some (.int many), some (.ref F), some (.int often), y5, y6] ∧ ns.length = i + 1 ∧ InZ z ns ∧ keptB ns r = true ∧ J F = some (.lst (ns.map V.int)) ∧ n + 2 ≤ m ∧ m ≤ n + 2 + 2 * i ∧ Deck K J p m ∧ Keep p J0 J)
      ⟨none, none, [x0], n + 2, rfl, rfl, fun x hx => by rw [List.mem_singleton.mp hx]; exact ⟨x1, x2⟩, rfl, hF1, Nat.le_refl _, by omega, D1, K01⟩ ?_ ?_⟩
    · rintro i σ J hi ⟨y5, y6, ns, m, rfl, hln, hz, hkp, hF', m1', m2', DJ, KJ⟩
      have n0 : ns ≠ [] := fun e => by rw [e] at hln; cases hln
      obtain ⟨la, ela, ela2, la0, laz⟩ := last_in hz n0
      have thJ : J th = some (.tup [.int z, .int r, .int g]) := (K0.trans KJ).at th0 ht
      refine ⟨_, rfl, _, rfl, F, _, -1, _, rfl, rfl, SqL.of hF', atI_last ela, ?_⟩
      refine ⟨fun σ' J' => ∃ (hd : Int) (m2 : Nat), σ' = [some (.ref p), some (.ref th), some (.int many), some (.ref F), some (.int often), some (.int (0 + (i : Int))), some (.int hd)] ∧ 0 ≤ hd ∧ hd < z ∧ m ≤ m2 ∧ m2 ≤ m + 2 ∧ Deck K J' p m2 ∧ Keep p J J', ?_, ?_⟩
      · refine ⟨_, rfl, _, rfl, p, often, m, rfl, by omega, by omega, DJ, by omega, fun q J2 q0 q1 D2 K2 => ?_⟩
        refine ⟨rfl, _, rfl, ite2 (fun _ => ?_) (fun _ => ⟨la, m + 1, rfl, la0, laz, by omega, by omega, D2, K2⟩)⟩
        refine ⟨_, rfl, _, rfl, th, _, 0, _, rfl, rfl, SqT.of (K2.at th0 thJ), rfl, p, z, m + 1, rfl, by omega, by omega, D2, by omega, fun q2 J3 q3 q4 D3 K3 => ?_⟩
        exact ⟨q2, m + 2, rfl, q3, q4, by omega, by omega, D3, K2.trans K3⟩
      · rintro σ' J' ⟨hd, m2, rfl, h0, h1, m3, m4, D2, K2⟩
        have hF2 := K2.at FP hF'
        have thJ' := K2.at th0 thJ
        refine ⟨fun σ' J3 => ∃ (hd : Int), σ' = [some (.ref p), some (.ref th), some (.int many), some (.ref F), some (.int often), some (.int (0 + (i : Int))), some (.int hd)] ∧ 0 ≤ hd ∧ hd < z ∧ keptB (ns ++ [hd]) r = true ∧ Same J' J3, ?_, ?_⟩
        · refine ⟨_, rfl, _, rfl, by show 1 ≤ sizeLine; decide, fun q hq => ?_⟩
          have s1 : Same J' (upd J' q (.lst [.int hd])) := same_new hq
          refine ⟨F, q, _, _, rfl, rfl, s1 _ _ hF2, upd_same, by show (ns.map V.int).length + 1 ≤ sizeLine; exact Nat.le_of_lt (small1000 (by rw [List.length_map]; omega)), fun c hc => ?_⟩
          have s2 := s1.trans (same_new (o := .lst (ns.map V.int ++ [.int hd])) hc)
          refine ⟨_, rfl, th, _, 1, _, rfl, rfl, SqT.of (s2 _ _ thJ'), rfl, ?_⟩
          refine ⟨c, r, ns ++ [hd], rfl, .inl (SqL.of (by rw [upd_same, List.map_append]; rfl)), by rw [List.length_append, List.length_singleton]; omega, fun J4 S4 => ?_⟩
          refine ⟨_, rfl, ite2 (fun _ => ?_) (fun e => ⟨hd, rfl, h0, h1, by simpa using e, s2.trans S4⟩)⟩
          exact ⟨_, rfl, _, rfl, F, _, -1, _, rfl, rfl, SqL.of (S4 _ _ (s2 _ _ hF2)), atI_last ela, ⟨la, rfl, la0, laz, (kept_last ela2).trans hkp, s2.trans S4⟩⟩
        · rintro σ' J3 ⟨hd', rfl, h0', h1', hk', S3⟩
          have hF3 := S3 _ _ hF2
          have K3 : Keep p J0 J3 := (KJ.trans K2).trans (Keep.of_same S3)
          refine ⟨_, rfl, .inl ⟨rfl, _, SqL.of hF3⟩, _, rfl, F, _, _, rfl, rfl, hF3, small1000 (by rw [List.length_map]; omega), ?_⟩
          refine ⟨_, _, ns ++ [hd'], m2, rfl, by rw [List.length_append, List.length_singleton, hln], ?_, hk', by rw [upd_same, List.map_append]; rfl, by omega, by omega, D0.write hF K3 (D2.of_same S3), K3.write hF FP⟩
          intro x hx
          rcases List.mem_append.mp hx with hx | hx
          · exact hz x hx
          · rw [List.mem_singleton.mp hx]
            exact ⟨h0', h1'⟩
    · rintro σ J ⟨y5, y6, ns, m, rfl, hln, hz, hkp, hF', m1', m2', DJ, KJ⟩
      refine ⟨_, rfl, F, _, rfl, .inl ⟨SqL.of hF', fun t ht' => ?_⟩⟩
      have KH : Keep p H J := K0.trans KJ
      refine k ns t _ m (by omega) hz hkp upd_same (KH.free (DJ.ne_new ht') ht') (by omega) (by omega) (DJ.put ht') (KH.trans (Keep.new ht'))
end

/-! ### the heads of the last moments -/
def headsI (ns : List Int) (m g : Nat) : List Int := (List.range (g + 1)).map fun i => ns.getD (m - i) 0
def sp_heads (K : PySem.W.Frag) (tb : Addr) : Sp := fun vs H Q _ => ∃ (th a : Addr) (z r : Int) (g m : Nat) (ns : List Int), vs = [.ref th, .ref a, .int (m : Int)] ∧ SqT K H th [.int z, .int r, .int (g : Int)] ∧ SqT K H a (ns.map V.int) ∧ g ≤ m ∧ m < ns.length ∧ ns.length ≤ 4000 ∧ GxR.TabG H tb ∧
  ∀ (t : Addr) (J : Hp), Grow H J → J t = some (.tup ((headsI ns m g).map V.int)) → Q (.ref t) J
section
variable {P : Program} {w : World} {K : PySem.W.Frag} {mg : Str → Option Value} {base : Heap}
theorem ok_heads (T : Txt K mg) (TB : GxR.TabB base mg T.c_heads_back T.p_heads_back) : FnOk P w K mg base CX0 2 T.a_heads_back T.d_heads_back ["house", "course", "moment"] (sp_heads K T.p_heads_back) := by
  refine Fun.okC T.F_heads_back T.h_heads_back sc_heads_back (fun vs H Q E h => ?_) (fun A outer s H vs Q E hr h => ?_)
  · obtain ⟨th, a, z, r, g, m, ns, rfl, _⟩ := h
    rfl
  · obtain ⟨th, a, z, r, g, m, ns, rfl, hth, hx, gm, ml, hl, hT, k⟩ := h
    refine ⟨_, (pss_cons (ps_set (i := 3) sc_heads_back.nd rfl (Or.inl rfl) (pe_ix ix_tup (pv 0) pe_int (fun _ _ => rfl)))
      (pss_one (ps_ret (pe_tupG (c := T.c_heads_back) (P := T.p_heads_back) hr (by rfl) T.m_tuple TB rfl ⟨rfl, rfl, by decide +kernel, rfl, rfl, gen_free (by decide +kernel)⟩ (pe_callTy (T := "range") cr_rangeOne (by rfl) T.m_range (by decide +kernel) (pa_cons (pe_op op_add (pv 3) pe_int) pa_nil)) (fun _ => rfl) rfl)))), ?_⟩
    refine ⟨_, rfl, th, _, 2, _, rfl, rfl, hth, rfl, ?_⟩
    refine ⟨_, rfl, _, _, rfl, rfl, _, rfl, fun q hq => ?_⟩
    have g1 : Grow H (upd H q (.rng 0 ((g : Int) + 1))) := Grow.new hq
    have el : ((g : Int) + 1 - 0).toNat = g + 1 := by omega
    have hl' : (ns.map V.int).length ≤ sizeLine := by rw [List.length_map]; exact Nat.le_trans hl (by decide)
    refine ⟨q, 0, _, fun _ => true, fun i => ns.getD (m - i) 0, rfl, upd_same, by decide, by decide, by omega, by omega, by rw [el]; exact Nat.le_trans (by omega : g + 1 ≤ 4000) (by decide), g1.t.tab hT, ?_, fun t H2 hB ht => ?_⟩
    · intro pins s1 I1
      obtain ⟨u, c, ru, hc, hcell⟩ := Inv.freeAt (i := 1) (x := "course") I1 rfl rfl rfl
      obtain ⟨u2, c2, ru2, hc2, hcell2⟩ := Inv.freeAt (i := 2) (x := "moment") I1 rfl rfl rfl
      have eu : u = .ref a := ru
      subst eu
      obtain ⟨tk2, eu2⟩ : ∃ t, u2 = .int (m : Int) t := ru2
      subst eu2
      obtain ⟨its, rv, ht, _⟩ := I1.tuple (g1.tup hx)
      obtain ⟨ps, hps, _⟩ := g1.t.tab hT
      have hP := I1.hok _ _ hps
      intro cenv A' E' i t s2 m2 hi hsc hcl hA hns hm2 hk
      rw [el] at hi
      have hkind : cenv.scope.kind = .function := by rw [hsc]
      have ht2 : IsTup s2.heap a its.toArray := by
        obtain ⟨o, ho, hc1, n, hd⟩ := ht
        refine ⟨o, hk a o (fun z => ?_) ho, hc1, n, hd⟩
        rw [z, hP] at ho
        cases ho
        cases hd
      have cellAt : ∀ {d : Addr} {v : Value}, s1.heap.IsCell d (some v) → s2.heap.IsCell d (some v) := fun {d v} hcl => by
        obtain ⟨o, ho, hd⟩ := hcl
        refine ⟨o, hk d o (fun z => ?_) ho, hd⟩
        rw [z, hP] at ho
        cases ho
        cases hd
      have hcc : cenv.cells.lookup ("course" : Str) = some c := by rw [hcl]; exact clo_at hc _ _ (Or.inl (by decide +kernel))
      have hcm : cenv.cells.lookup ("moment" : Str) = some c2 := by rw [hcl]; exact clo_at hc2 _ _ (Or.inl (by decide +kernel))
      have gc : ∀ p : Pos, GV P w A' cenv s2 (.Name "course" p) (· = .ref a) := fun p => gv_free hkind (by rw [hsc]; rfl) hcc (cellAt hcell) rfl
      have gmo : ∀ p : Pos, GV P w A' cenv s2 (.Name "moment" p) (IsI (m : Int)) := fun p => gv_free hkind (by rw [hsc]; rfl) hcm (cellAt hcell2) ⟨_, rfl⟩
      have gago : ∀ p : Pos, GV P w A' cenv s2 (.Name "ago" p) (IsI (0 + (i : Int))) := fun p => gv_loc hkind (by rw [hsc]; rfl) hns hm2 ⟨_, rfl⟩
      have at1 : atI (ns.map V.int) ((m : Int) - (0 + (i : Int))) = some (.int (ns.getD (m - i) 0)) := by
        rw [show ((m : Int) - (0 + (i : Int))) = ((m - i : Nat) : Int) by omega]
        refine atI_nat ?_
        rw [List.getElem?_map, List.getElem?_eq_getElem (by omega), List.getD_eq_getElem?_getD, List.getElem?_eq_getElem (by omega)]
        rfl
      refine ⟨gt_nil rfl _, fun _ => ?_⟩
      exact (gv_ix (gc _) (gv_sub (gmo _) (gago _)) ht2 rv hl' at1 (fun u hu => hu) (fun _ _ => rfl)) _ _ (GxR.keeps_refl _)
    · rw [el] at *
      have G := (g1.trans (Grow.tabbed (g1.t.tab hT) hB))
      refine k t _ (G.write (G.free ht)) ?_
      rw [upd_same]
      unfold headsI
      rw [List.map_map, List.filter_eq_self.mpr fun _ _ => rfl]
      rfl
end

/-! ### who may be named -/
/-- what stands in front of the first s -/
def ahead (s : Int) : List Int → List Int
  | [] => []
  | x :: r => if x = s then [] else x :: ahead s r
theorem ahead_take {s : Int} : ∀ {ns : List Int} {i : Nat}, (∀ x ∈ ns.take i, x ≠ s) → ns[i]? = some s → ahead s ns = ns.take i
  | [], i, _, h => by simp at h
  | x :: r, 0, _, h => by
    have e : x = s := by simpa using h
    simp [ahead, e]
  | x :: r, i + 1, hn, h => by
    rw [List.take_succ_cons] at hn ⊢
    have nx : x ≠ s := hn x List.mem_cons_self
    simp only [ahead, if_neg nx]
    rw [ahead_take (fun y hy => hn y (List.mem_cons_of_mem _ hy)) (by simpa using h)]
theorem ahead_all {s : Int} : ∀ {ns : List Int}, (∀ x ∈ ns, x ≠ s) → ahead s ns = ns
  | [], _ => rfl
  | x :: r, hn => by
    have nx : x ≠ s := hn x List.mem_cons_self
    simp only [ahead, if_neg nx]
    rw [ahead_all fun y hy => hn y (List.mem_cons_of_mem _ hy)]
theorem mem_ahead {s k : Int} : ∀ {l : List Int}, k ∈ ahead s l ↔ ∃ i, l[i]? = some k ∧ s ∉ l.take (i + 1)
  | [] => by simp [ahead]
  | x :: r => by
    by_cases e : x = s
    · simp only [ahead, if_pos e]
      refine ⟨fun h => absurd h List.not_mem_nil, fun ⟨i, _, h⟩ => absurd ?_ h⟩
      rw [List.take_succ_cons, e]
      exact List.mem_cons_self
    · simp only [ahead, if_neg e, List.mem_cons]
      rw [mem_ahead]
      constructor
      · rintro (h | ⟨i, h1, h2⟩)
        · exact ⟨0, by simp [h], by simp; exact fun z => e z.symm⟩
        · refine ⟨i + 1, by simpa using h1, ?_⟩
          rw [List.take_succ_cons, List.mem_cons]
          rintro (z | z)
          · exact e z.symm
          · exact h2 z
      · rintro ⟨i, h1, h2⟩
        cases i with
        | zero => exact Or.inl (by simpa using h1.symm)
        | succ i =>
          rw [List.take_succ_cons, List.mem_cons] at h2
          exact Or.inr ⟨i, by simpa using h1, fun z => h2 (Or.inr z)⟩
theorem inV_ints (s : Int) (zs : List Int) : inV (.int s) (zs.map V.int) = zs.contains s := by
  unfold inV
  rw [List.any_map]
  induction zs with
  | nil => rfl
  | cons z r ih =>
    rw [List.any_cons, ih, List.contains_cons]
    show ((z == s) || r.contains s) = ((s == z) || r.contains s)
    rw [Bool.beq_comm]
theorem flat_ints (zs : List Int) : (zs.map V.int).all flatV = true := by
  rw [List.all_map]
  exact List.all_eq_true.mpr fun _ _ => rfl
def sp_named (K : PySem.W.Frag) : Sp := fun vs H Q _ => ∃ (a : Addr) (s : Int) (ns : List Int), vs = [.ref a, .int s] ∧ SqT K H a (ns.map V.int) ∧ ns.length < 60 ∧
  ∀ (out : List Int) (t : Addr) (J : Hp), Sorted out (ahead s ns) → out.length < 60 → Same H J → J t = some (.tup (out.map V.int)) → Q (.ref t) J
theorem write_same {q : Addr} {G J : Hp} {o : HO} (k : Same G J) (h : G q = none) : Same G (upd J q o) := fun b u e => by
  rw [upd_ne (ne_of_none e h)]
  exact k b u e
section
variable {P : Program} {w : World} {K : PySem.W.Frag} {mg : Str → Option Value} {base : Heap}
theorem ok_named (T : Txt K mg) : FnOk P w K mg base CX0 1 T.a_named_by T.d_named_by ["heads", "server"] (sp_named K) := by
  refine T.F_named_by.ok sc_named_by (fun vs H Q E h => ?_) (fun cdv A outer st H vs Q E hr h => ?_)
  · obtain ⟨a, s, ns, rfl, _⟩ := h
    rfl
  · obtain ⟨a, s, ns, rfl, hx, hl, k⟩ := h
    refine ⟨_, (pss_cons (ps_set (i := 2) sc_named_by.nd rfl (Or.inl rfl) (pe_lst pa_nil))
      (pss_cons (ps_for PassesOwn.never rfl (pi_tup (pv 0)) (pg_name (i := 3) sc_named_by.nd rfl (Or.inl rfl))
        (pss_cons (ps_if (pt_cmpR op_eq (pv 3) (pv 1) (nomark _))
        (pss_one ps_break)
        pss_nil)
      (pss_one (ps_expr (pe_bm PySem.F.plainAttrs_list PySem.F.slot_list_append PySem.F.type_list_append mt_append (pv 2) (pa_cons (pv 3) pa_nil))))))
      (pss_one (ps_ret (pe_callTy (T := "tuple") call_tuple_of (by rfl) T.m_tuple (by decide +kernel) (pa_cons (pe_callB (id := "sorted") (cr_sortedSet rfl) (by rfl) T.m_sorted (by decide +kernel) (pa_cons (pe_callTy (T := "set") (cr_setN rfl) (by rfl) T.m_set (by decide +kernel) (pa_cons (pv 2) pa_nil)) pa_nil)) pa_nil)))))), ?_⟩
    refine ⟨Nat.zero_le _, fun F hF => ?_⟩
    have ll : (ns.map V.int).length = ns.length := List.length_map ..
    refine ⟨_, rfl, a, rfl, ⟨_, sameT (same_new hF) hx⟩, for_tup (K := K) (a := a) (xs := ns.map V.int) (fun i σ J => (∃ y, σ = [some (.ref a), some (.int s), some (.ref F), y]) ∧ Same H J ∧ J F = some (.lst ((ns.take i).map V.int)) ∧ ∀ x ∈ ns.take i, x ≠ s) ⟨⟨none, rfl⟩, same_new hF, upd_same, fun x hx => (List.not_mem_nil hx).elim⟩ (fun i σ J _ ⟨_, S, _⟩ => sameT S hx) ?_ ?_⟩
    · rintro i x σ J hxi ⟨⟨y, rfl⟩, S, hJ, hn⟩
      rw [List.getElem?_map] at hxi
      cases ex : ns[i]? with
      | none => rw [ex] at hxi; cases hxi
      | some v =>
      rw [ex] at hxi
      cases hxi
      refine ⟨_, rfl, _, rfl, rfl, _, rfl, ?_⟩
      rw [dec_int]
      refine ite2 (fun e => ?_) (fun e => ?_)
      · have ev : v = s := by simpa using e
        have ea := ahead_take hn (show ns[i]? = some s by rw [ex, ev])
        exact ⟨_, rfl, F, ahead s ns, rfl, .inl (SqL.of (by rw [ea]; exact hJ)), by rw [ea, List.length_take]; omega, fun p1 m lm h1 => ⟨p1, _, m, rfl, upd_same, by rw [ea, List.length_take] at lm; omega, fun out p2 o1 o2 o3 h2 => ⟨p2, _, rfl, .inl ⟨SqL.of upd_same, fun t ht =>
          k out t _ ⟨o1, fun u => by rw [o2 u]; exact decide_eq_true_iff⟩ (by rw [ea, List.length_take] at lm; omega) (((S.trans (same_new h1)).trans (same_new h2)).trans (same_new ht)) upd_same⟩⟩⟩⟩
      · have ev : v ≠ s := by simpa using e
        refine ⟨_, rfl, .inl ⟨rfl, _, SqL.of hJ⟩, _, rfl, F, _, _, rfl, rfl, hJ, small1000 (by rw [List.length_map, List.length_take]; omega), ?_⟩
        refine ⟨⟨_, rfl⟩, write_same S hF, ?_, fun x hx => ?_⟩
        · rw [upd_same, List.take_add_one, ex, List.map_append]
          rfl
        · rw [List.take_add_one, ex] at hx
          rcases List.mem_append.mp hx with hx | hx
          · exact hn x hx
          · rw [Option.toList_some, List.mem_singleton] at hx
            rw [hx]
            exact ev
    · rintro σ J ⟨⟨y, rfl⟩, S, hJ, hn⟩
      rw [ll, List.take_of_length_le (Nat.le_refl _)] at hJ hn
      have ea : ahead s ns = ns.take ns.length := by rw [ahead_all hn, List.take_of_length_le (Nat.le_refl _)]
      rw [← List.take_of_length_le (Nat.le_refl ns.length)] at hJ
      exact ⟨_, rfl, F, ahead s ns, rfl, .inl (SqL.of (by rw [ea]; exact hJ)), by rw [ea, List.length_take]; omega, fun p1 m lm h1 => ⟨p1, _, m, rfl, upd_same, by rw [ea, List.length_take] at lm; omega, fun out p2 o1 o2 o3 h2 => ⟨p2, _, rfl, .inl ⟨SqL.of upd_same, fun t ht =>
          k out t _ ⟨o1, fun u => by rw [o2 u]; exact decide_eq_true_iff⟩ (by rw [ea, List.length_take] at lm; omega) (((S.trans (same_new h1)).trans (same_new h2)).trans (same_new ht)) upd_same⟩⟩⟩⟩
end

/-! ### kinds of values, by the data -/
def wholeD (lo hi : Int) : PyData → Bool
  | .int i => decide (lo ≤ i) && decide (i ≤ hi)
  | _ => false
theorem whole_int {lo hi : Int} {d : PyData} (h : wholeD lo hi d = true) : ∃ i, d = .int i ∧ lo ≤ i ∧ i ≤ hi := by
  cases d <;> first | (exact ⟨_, rfl, by simpa [wholeD] using h⟩) | (exfalso; revert h; simp [wholeD])
theorem isA_whole {lo hi : Int} {d : PyData} (h : (isA "bool" d || !isA "int" d) = true) : wholeD lo hi d = false := by
  cases d <;> first | rfl | (exfalso; revert h; simp [isA, isS, kindD])
def sp_whole (K : PySem.W.Frag) : Sp := fun vs H Q _ => ∃ (v : V) (d : PyData) (lo hi : Int), vs = [v, .int lo, .int hi] ∧ Dp K H v d ∧ Q (.bl (wholeD lo hi d)) H
theorem isA_int_of {d : PyData} (h1 : ¬ isA "bool" d = true) (h2 : ¬ (!isA "int" d) = true) : ∃ i, d = .int i := by
  cases d <;> first | exact ⟨_, rfl⟩ | (exfalso; revert h1 h2; simp [isA, isS, kindD])
section
variable {P : Program} {w : World} {K : PySem.W.Frag} {mg : Str → Option Value} {base : Heap}
theorem ok_whole (T : Txt K mg) : FnOk P w K mg base CX0 1 T.a_whole T.d_whole ["value", "low", "high"] (sp_whole K) := by
  refine T.F_whole.ok sc_whole (fun vs H Q E h => ?_) (fun cdv A outer s H vs Q E hr h => ?_)
  · obtain ⟨v, d, lo, hi, rfl, _⟩ := h
    rfl
  · obtain ⟨v, d, lo, hi, rfl, hd, k⟩ := h
    refine ⟨_, (pss_cons (ps_if (PW.pt (pw_or (pt_val (pe_callB (id := "isinstance") (call_isD "bool" (by decide)) (by rfl) T.m_isinstance (by decide +kernel) (pa_cons (pv 0) (pa_cons (pe_bltn (v := .ty "bool") (by rfl) T.m_bool (by decide +kernel) rfl) pa_nil)))) (pw_or1 (pt_not (pt_val (pe_callB (id := "isinstance") (call_isD "int" (by decide)) (by rfl) T.m_isinstance (by decide +kernel) (pa_cons (pv 0) (pa_cons (pe_bltn (v := .ty "int") (by rfl) T.m_int (by decide +kernel) rfl) pa_nil))))))))
        (pss_one (ps_ret pe_bl))
        pss_nil)
      (pss_one (ps_ret (pe_chain op_le op_le (pv 1) (pv 0) (pv 2))))), ?_⟩
    refine ⟨_, rfl, v, d, rfl, hd, _, rfl, ite2 (fun hb => ?_) (fun hb => ?_)⟩
    · rw [isA_whole (by rw [hb]; rfl)] at k
      exact iteT k
    · refine ⟨_, rfl, v, d, rfl, hd, _, rfl, ite2 (fun hi' => ?_) (fun hi' => ?_)⟩
      · rw [isA_whole (by rw [hi', Bool.or_true])] at k
        exact k
      · obtain ⟨i, rfl⟩ := isA_int_of hb hi'
        cases hd
        refine ⟨_, rfl, _, rfl, lo, i, rfl, rfl, _, rfl, ?_⟩
        by_cases hl : lo ≤ i
        · rw [decide_eq_true hl]
          refine iteT ⟨_, rfl, i, hi, rfl, rfl, ?_⟩
          have e : wholeD lo hi (.int i) = decide (i ≤ hi) := by simp only [wholeD, decide_eq_true hl, Bool.true_and]
          rw [e] at k
          exact k
        · rw [decide_eq_false hl]
          refine iteF ?_
          have e : wholeD lo hi (.int i) = false := by simp only [wholeD, decide_eq_false hl, Bool.false_and]
          rw [e] at k
          exact k
end

/-! ### tuples of just so many -/
def tupD (n : Int) : PyData → Bool
  | .tuple ds => decide ((ds.length : Int) = n)
  | _ => false
theorem isA_tupD {d : PyData} (n : Int) (h : isA "tuple" d = false) : tupD n d = false := by
  cases d <;> first | rfl | (exfalso; revert h; simp [isA, isS, kindD])
def sp_tupleof (K : PySem.W.Frag) : Sp := fun vs H Q _ => ∃ (v : V) (d : PyData) (n : Int), vs = [v, .int n] ∧ Dp K H v d ∧ Q (.bl (tupD n d)) H
section
variable {P : Program} {w : World} {K : PySem.W.Frag} {mg : Str → Option Value} {base : Heap}
theorem ok_tupleof (T : Txt K mg) : FnOk P w K mg base CX0 1 T.a_tuple_of T.d_tuple_of ["value", "many"] (sp_tupleof K) := by
  refine T.F_tuple_of.ok sc_tuple_of (fun vs H Q E h => ?_) (fun cdv A outer s H vs Q E hr h => ?_)
  · obtain ⟨v, d, n, rfl, _⟩ := h
    rfl
  · obtain ⟨v, d, n, rfl, hd, k⟩ := h
    refine ⟨_, (pss_one (ps_ret (pe_and (pe_callB (id := "isinstance") (call_isD "tuple" (by decide)) (by rfl) T.m_isinstance (by decide +kernel) (pa_cons (pv 0) (pa_cons (pe_bltn (v := .ty "tuple") (by rfl) T.m_tuple (by decide +kernel) rfl) pa_nil))) (pe_one (pe_cmpR op_eq (pe_callB (id := "len") call_len_seq (by rfl) T.m_len (by decide +kernel) (pa_cons (pv 0) pa_nil)) (pv 1) (nomark _)))))), ?_⟩
    refine ⟨_, rfl, v, d, rfl, hd, _, rfl, ?_⟩
    cases ht : isA "tuple" d with
    | false =>
      rw [isA_tupD n ht] at k
      exact iteF k
    | true =>
      obtain ⟨ds, rfl⟩ := isA_tup ht
      cases hd with
      | tup h1 h2 =>
        rename_i a xs
        have hl := dpAll_len h2
        refine iteT ⟨_, rfl, a, xs, rfl, .inr h1, _, rfl, rfl, ?_⟩
        have e : decide (V.int (xs.length : Int) = V.int n) = tupD n (.tuple ds) := by
          simp only [tupD, hl, V.int.injEq]
        rw [e]
        exact k
end

/-! ### what is a course -/
def intD : PyData → Int
  | .int i => i
  | _ => 0
def courseD (z r : Int) : PyData → Bool
  | .tuple ds => !ds.isEmpty && ds.all (wholeD 0 (z - 1)) && keptB (ds.map intD) r
  | _ => false
theorem all_whole {K : PySem.W.Frag} {H : Hp} {lo hi : Int} : ∀ {vs : List V} {ds : List PyData}, DpAll K H vs ds → ds.all (wholeD lo hi) = true → vs = (ds.map intD).map V.int
  | _, _, .nil, _ => rfl
  | _, _, .cons a b, h => by
    rw [List.all_cons, Bool.and_eq_true] at h
    obtain ⟨i, rfl, _⟩ := whole_int h.1
    cases a
    rw [all_whole b h.2]
    rfl
def sp_iscourse (K : PySem.W.Frag) (tb : Addr) : Sp := fun vs H Q _ => ∃ (th : Addr) (v : V) (z r g : Int) (d : PyData), vs = [.ref th, v] ∧ SqT K H th [.int z, .int r, .int g] ∧ Dp K H v d ∧ (∀ ds, d = .tuple ds → ds.length ≤ 4000) ∧ GxR.TabG H tb ∧
  ∀ J, Grow H J → Q (.bl (courseD z r d)) J
section
variable {P : Program} {w : World} {K : PySem.W.Frag} {mg : Str → Option Value} {base : Heap}
theorem ok_iscourse (T : Txt K mg) (TB : GxR.TabB base mg T.c_changes_of T.p_changes_of) : FnOk P w K mg base CX0 3 T.a_is_course T.d_is_course ["house", "value"] (sp_iscourse K T.p_changes_of) := by
  have G_whole : FnOk P w K mg base CX0 1 T.a_whole T.d_whole ["value", "low", "high"] (sp_whole K) := ok_whole T
  have G_changes_of : FnOk P w K mg base CX0 2 T.a_changes_of T.d_changes_of ["course"] (sp_changes K T.p_changes_of) := ok_changes T TB
  refine T.F_is_course.ok sc_is_course (fun vs H Q E h => ?_) (fun cdv A outer s H vs Q E hr h => ?_)
  · obtain ⟨th, v, z, r, g, d, rfl, _⟩ := h
    rfl
  · obtain ⟨th, v, z, r, g, d, rfl, hth, hd, hl, hT, k⟩ := h
    refine ⟨_, (pss_cons (ps_asg (pv 0) (pg_tup (by rfl) (pgs_cons (pg_name (i := 2) sc_is_course.nd rfl (Or.inr rfl)) (pgs_cons (pg_name (i := 3) sc_is_course.nd rfl (Or.inr rfl)) (pgs_cons (pg_name (i := 4) sc_is_course.nd rfl (Or.inl rfl)) pgs_nil)))))
      (pss_cons (ps_if (PW.pt (pw_or (pt_not (pt_val (pe_callB (id := "isinstance") (call_isD "tuple" (by decide)) (by rfl) T.m_isinstance (by decide +kernel) (pa_cons (pv 1) (pa_cons (pe_bltn (v := .ty "tuple") (by rfl) T.m_tuple (by decide +kernel) rfl) pa_nil))))) (pw_or1 (pt_cmpR op_eq (pe_callB (id := "len") call_len_seq (by rfl) T.m_len (by decide +kernel) (pa_cons (pv 1) pa_nil)) pe_int (nomark _)))))
        (pss_one (ps_ret pe_bl))
        pss_nil)
      (pss_cons (ps_if (pt_not (pt_val (pe_callB (id := "all") (cr_all rfl) (by rfl) T.m_all (by decide +kernel) (pa_cons (pe_lc (own := [("head", 5)]) (g := gName 5) (by rfl) sc_is_course.nd (pi_tup (pv 1)) (blkOk_by (own := [("head", 5)]) (N := ["house", "value", "servers", "rest", "_", "head", "changes", "soon", "late"]) (sc := defScope s_is_course) (by decide +kernel)) (fun _ _ _ _ _ => (pg_name (i := 5) sc_is_course.nd rfl (Or.inl rfl))) (fun _ _ _ _ _ => pts_nil) (fun _ _ _ _ _ => (pe_call G_whole (hr.mono (by omega)) (by rfl) T.g_whole T.F_whole.kp T.b_whole .nil pass0 (pa_cons (pv 5) (pa_cons pe_int (pa_cons (pe_op op_sub (pv 2) pe_int) pa_nil)))))) pa_nil))))
        (pss_one (ps_ret pe_bl))
        pss_nil)
      (pss_cons (ps_set (i := 6) sc_is_course.nd rfl (Or.inl rfl) (pe_call G_changes_of (hr.mono (by omega)) (by rfl) T.g_changes_of T.F_changes_of.kp T.b_changes_of .nil pass0 (pa_cons (pv 1) pa_nil)))
      (pss_one (ps_ret (pe_callB (id := "all") (cr_all rfl) (by rfl) T.m_all (by decide +kernel) (pa_cons (pe_lc (own := [("soon", 7), ("late", 8)]) (g := gTup K 2 (gCons (gName 7) (gCons (gName 8) gNil))) (by rfl) sc_is_course.nd (RZ.pi_zipA (by rfl) T.m_zip (pa_cons (pv 6) (pa_cons (pe_slice sl_tupS (pv 6) (po_some pe_int) po_none) pa_nil))) (blkOk_by (own := [("soon", 7), ("late", 8)]) (N := ["house", "value", "servers", "rest", "_", "head", "changes", "soon", "late"]) (sc := defScope s_is_course) (by decide +kernel)) (fun _ _ _ _ _ => (pg_pairK K (i := 7) (j := 8) rfl rfl sc_is_course.nd rfl (Or.inl rfl) rfl (Or.inl rfl))) (fun _ _ _ _ _ => pts_nil) (fun _ _ _ _ _ => (pe_cmpR op_ge (pe_op op_sub (pv 8) (pv 7)) (pv 3) (nomark _)))) pa_nil)))))))), ?_⟩
    refine ⟨_, rfl, th, _, rfl, hth, rfl, _, _, rfl, _, _, rfl, _, _, rfl, rfl, ?_⟩
    refine ⟨_, rfl, v, d, rfl, hd, _, rfl, ?_⟩
    cases ht : isA "tuple" d with
    | false =>
      have e : courseD z r d = false := by cases d <;> first | rfl | (exfalso; revert ht; simp [isA, isS, kindD])
      rw [e] at k
      exact iteT (iteT (k H (Grow.refl H)))
    | true =>
    obtain ⟨ds, rfl⟩ := isA_tup ht
    have hl := hl ds rfl
    cases hd with
    | tup h1 h2 =>
    rename_i t xs
    have hle := dpAll_len h2
    refine iteF ⟨_, rfl, t, xs, rfl, .inr h1, rfl, _, rfl, ?_⟩
    cases hE : ds.isEmpty with
    | true =>
      have e : courseD z r (.tuple ds) = false := by simp only [courseD, hE, Bool.not_true, Bool.false_and]
      rw [e] at k
      have z0 : xs.length = 0 := by rw [hle, List.isEmpty_iff.mp hE]; rfl
      rw [decide_eq_true (show V.int (xs.length : Int) = V.int 0 by rw [z0]; rfl)]
      exact iteT (k H (Grow.refl H))
    | false =>
    have z0 : ds.length ≠ 0 := fun e => by
      rw [List.eq_nil_of_length_eq_zero e] at hE
      cases hE
    rw [decide_eq_false (show ¬ V.int (xs.length : Int) = V.int 0 by intro q; have := V.int.inj q; omega)]
    refine iteF ⟨_, rfl, t, rfl, ⟨_, h1⟩, fun D hD => ?_⟩
    refine lc_tup (K := K) (a := t) (xs := xs) (fun i J => J = upd H D (.lst (((ds.take i).map (wholeD 0 (z - 1))).map V.bl))) rfl (fun i J _ e => by rw [e]; exact sameT (same_new hD) h1) ?_ ?_
    · rintro i x J hx rfl
      obtain ⟨e, he, xd⟩ := dpAll_get h2 hx
      have hS := same_new (o := .lst (((ds.take i).map (wholeD 0 (z - 1))).map V.bl)) hD
      refine ⟨rfl, ?_⟩
      unfold tYes
      refine iteT ?_
      refine ⟨_, rfl, _, rfl, _, _, rfl, rfl, x, e, 0, z - 1, rfl, dpSame hS _ _ xd, ?_⟩
      refine ⟨_, upd_same, small1000' (by simp only [List.length_map, List.length_take]; omega), ?_⟩
      rw [upd_upd, List.take_add_one, he]
      simp only [List.map_append, Option.toList_some, List.map_cons, List.map_nil]
    · rintro J rfl
      have s1 := same_new (o := .lst (((ds.take xs.length).map (wholeD 0 (z - 1))).map V.bl)) hD
      refine ⟨D, (ds.take xs.length).map (wholeD 0 (z - 1)), rfl, SqL.of upd_same, ?_⟩
      rw [hle, List.take_of_length_le (Nat.le_refl _)] at *
      have ea : (ds.map (wholeD 0 (z - 1))).all id = ds.all (wholeD 0 (z - 1)) := by rw [List.all_map]; rfl
      rw [ea]
      refine ⟨_, rfl, ?_⟩
      cases eb : ds.all (wholeD 0 (z - 1)) with
      | false =>
        have e : courseD z r (.tuple ds) = false := by simp only [courseD, eb, Bool.and_false, Bool.false_and]
        rw [e] at k
        exact iteT (k _ (Grow.of_same s1))
      | true =>
      have e : courseD z r (.tuple ds) = keptB (ds.map intD) r := by simp only [courseD, eb, hE, Bool.not_false, Bool.true_and]
      rw [e] at k
      have ex := all_whole h2 eb
      have h9 : SqT K H t ((ds.map intD).map V.int) := by rw [← ex]; exact h1
      have ln : (ds.map intD).length = ds.length := List.length_map ..
      generalize ds.map intD = ns at *
      refine iteF ⟨_, rfl, t, ns, rfl, sameT s1 h9, Nat.le_trans (by omega : ns.length ≤ 4000) (by decide), (Grow.of_same s1).t.tab hT, fun t2 J2 G2 hJ2 => ?_⟩
      have e2 : keptB ns r = gapsB r (changesI ns) := rfl
      have cl : (changesI ns).length ≤ ns.length := Nat.le_trans (chg_len ns (ns.length - 1)) (by omega)
      rw [e2] at k
      have e1 : cutV ((changesI ns).map V.int) (some 1) none = ((changesI ns).drop 1).map V.int := by rw [cut_one, List.map_drop]
      generalize changesI ns = cs at *
      refine ⟨_, rfl, _, rfl, 1, rfl, t2, _, rfl, SqT.of hJ2, fun c J3 hc S3 => ?_⟩
      rw [e1] at hc
      refine ⟨t2, c, cs.map V.int, (cs.drop 1).map V.int, rfl, .inr ⟨SqT.of (S3 _ _ hJ2), hc, fun D2 hD2 => ?_⟩⟩
      let f : Int × Int → Bool := fun p => decide (r ≤ p.2 - p.1)
      have zl : (cs.zip (cs.drop 1)).length = min (cs.map V.int).length ((cs.drop 1).map V.int).length := by rw [List.length_zip, List.length_map, List.length_map]
      refine lc_it (walk_zipT zl) (fun i J => Same J3 J ∧ J D2 = some (.lst ((((cs.zip (cs.drop 1)).take i).map f).map V.bl))) ⟨same_new hD2, upd_same⟩
        (fun i J _ ⟨S, _⟩ => ⟨SqT.of (S _ _ (S3 _ _ hJ2)), sameT S hc⟩) ?_ ?_
      · rintro i v J J' hi ⟨S, hDn⟩ ⟨Tp, x', y', rfl, hTp, rfl, hx', hy'⟩
        have ei : (cs.zip (cs.drop 1))[i]? = some ((cs.zip (cs.drop 1))[i]) := List.getElem?_eq_getElem hi
        generalize (cs.zip (cs.drop 1))[i] = pr at ei
        obtain ⟨u, y⟩ := pr
        have ez := List.getElem?_zip_eq_some.mp ei
        have hx' : (cs.map V.int)[i]? = some x' := hx'
        have hy' : ((cs.drop 1).map V.int)[i]? = some y' := hy'
        rw [List.getElem?_map, ez.1] at hx'
        rw [List.getElem?_map, ez.2] at hy'
        cases hx'
        cases hy'
        have TD : Tp ≠ D2 := (ne_of_none hDn hTp).symm
        have S' : Same J3 (upd J Tp (.tup [.int u, .int y])) := S.trans (same_new hTp)
        refine ⟨Tp, _, rfl, SqT.of upd_same, rfl, _, _, rfl, _, _, rfl, rfl, rfl, ?_⟩
        unfold tYes
        refine iteT ⟨_, rfl, _, rfl, _, _, rfl, rfl, _, rfl, _, _, rfl, rfl, ?_⟩
        refine ⟨_, by rw [upd_ne TD.symm]; exact hDn, small1000' ?_, fun b o hb => ?_, ?_⟩
        · rw [zl, List.length_map] at hi
          simp only [List.length_map, List.length_take]
          omega
        · rw [upd_ne (ne_of_none hb hD2)]
          exact S' b o hb
        · rw [upd_same, List.take_add_one, ei]
          simp only [List.map_append, Option.toList_some, List.map_cons, List.map_nil]
          rfl
      · rintro J ⟨S, hDn⟩
        rw [List.take_of_length_le (Nat.le_refl _)] at hDn
        refine ⟨D2, _, rfl, SqL.of hDn, ?_⟩
        have e3 : (((cs.zip (cs.drop 1)).map f).all id) = gapsB r cs := by
          rw [List.all_map]
          unfold gapsB
          refine List.all_congr rfl (fun p => ?_)
          show decide (r ≤ p.2 - p.1) = !decide (p.2 - p.1 < r)
          by_cases q : r ≤ p.2 - p.1
          · rw [decide_eq_true q, decide_eq_false (by omega)]
            rfl
          · rw [decide_eq_false q, decide_eq_true (by omega)]
            rfl
        rw [e3]
        exact k _ (((Grow.of_same s1).trans G2).trans (Grow.of_same (S3.trans S)))
end

/-! ### tables drawn -/
abbrev Row : Type := Str × Int × Int
def rowD (r : Row) : PyData := .tuple [.str r.1, .int r.2.1, .int r.2.2]
def tableD (rs : List Row) : PyData := .tuple (rs.map rowD)
def deedOk (x : Str) : Prop := x = "named" ∨ x = "next" ∨ x = "wait"
def RowOf (m : Int) (r : Row) : Prop := deedOk r.1 ∧ 0 ≤ r.2.1 ∧ r.2.1 < m ∧ 0 ≤ r.2.2 ∧ r.2.2 < m
def TableOf (room : Int) (rs : List Row) : Prop := 1 ≤ rs.length ∧ (rs.length : Int) ≤ room ∧ ∀ r ∈ rs, RowOf (rs.length : Int) r
theorem dp_row {K : PySem.W.Frag} {H : Hp} {v : V} {r : Row} (h : Dp K H v (rowD r)) : ∃ a, v = .ref a ∧ SqT K H a [.str r.1, .int r.2.1, .int r.2.2] := by
  cases h with
  | tup h1 h2 =>
    cases h2 with
    | cons a h2 =>
    cases h2 with
    | cons b h2 =>
    cases h2 with
    | cons c h2 =>
    cases h2
    cases a
    cases b
    cases c
    exact ⟨_, rfl, h1⟩
theorem dp_table {K : PySem.W.Frag} {H : Hp} {v : V} {rs : List Row} (h : Dp K H v (tableD rs)) : ∃ (a : Addr) (xs : List V), v = .ref a ∧ SqT K H a xs ∧ xs.length = rs.length ∧
    ∀ (i : Nat) (r : Row), rs[i]? = some r → ∃ b, xs[i]? = some (.ref b) ∧ SqT K H b [.str r.1, .int r.2.1, .int r.2.2] := by
  cases h with
  | tup h1 h2 =>
    rename_i a xs
    have hl := dpAll_len h2
    rw [List.length_map] at hl
    refine ⟨a, xs, rfl, h1, hl, fun i r hr => ?_⟩
    have hi : i < xs.length := by
      rw [hl]
      exact (List.getElem?_eq_some_iff.mp hr).1
    obtain ⟨d, e1, e2⟩ := dpAll_get h2 (List.getElem?_eq_getElem hi)
    rw [List.getElem?_map, hr] at e1
    cases e1
    obtain ⟨b, eb, sb⟩ := dp_row e2
    exact ⟨b, by rw [List.getElem?_eq_getElem hi, eb], sb⟩
theorem dp_three {K : PySem.W.Frag} {H : Hp} {v : V} {x y z : Int} (h : Dp K H v (.tuple [.int x, .int y, .int z])) : ∃ a, v = .ref a ∧ SqT K H a [.int x, .int y, .int z] := by
  cases h with
  | tup h1 h2 =>
    cases h2 with
    | cons a h2 =>
    cases h2 with
    | cons b h2 =>
    cases h2 with
    | cons c h2 =>
    cases h2
    cases a
    cases b
    cases c
    exact ⟨_, rfl, h1⟩
theorem dp_three_at {K : PySem.W.Frag} {H : Hp} {a : Addr} {x y z : Int} (h : Dp K H (.ref a) (.tuple [.int x, .int y, .int z])) : SqT K H a [.int x, .int y, .int z] := by
  obtain ⟨b, e, s⟩ := dp_three h
  cases e
  exact s
theorem row_nice {m : Int} {r : Row} {e : Nat} (he : 10 ≤ e) (hm : m ≤ 1000) (h : RowOf m r) : nice e (rowD r) = true := by
  obtain ⟨hd, a0, a1, b0, b1⟩ := h
  have p : 2 ^ 10 ≤ 2 ^ e := Nat.pow_le_pow_right (by decide) he
  have h1 : r.2.1.natAbs < 2 ^ e := by omega
  have h2 : r.2.2.natAbs < 2 ^ e := by omega
  have h3 : nice e (.str r.1) = true := by rcases hd with h | h | h <;> (rw [h]; simp only [nice]; decide +kernel)
  simp only [rowD, nice, niceAll, Bool.and_eq_true, decide_eq_true_eq]
  refine ⟨by simpa only [nice, Bool.and_eq_true, decide_eq_true_eq] using h3, h1, h2, trivial⟩
theorem row_wt (r : Row) : wt (rowD r) = 4 := by simp only [rowD, wt, wtAll]
theorem row_depth (r : Row) : (rowD r).depth = 1 := by simp only [rowD, PyData.depth, PyData.depthAll]; rfl
theorem table_wt : ∀ rs : List Row, wtAll (rs.map rowD) = 4 * rs.length
  | [] => rfl
  | r :: rs => by
    rw [List.map_cons, List.length_cons]
    simp only [wtAll, row_wt, table_wt rs]
    omega
theorem table_tiny {room : Int} {rs : List Row} (hr : room ≤ 100) (h : TableOf room rs) : Tiny 140 (4 * rs.length + 1) 2 (tableD rs) := by
  obtain ⟨h1, h2, h3⟩ := h
  refine ⟨?_, ?_, ?_⟩
  · simp only [tableD, nice]
    refine niceAll_iff.mpr fun d hd => ?_
    obtain ⟨r, hr', rfl⟩ := List.mem_map.mp hd
    exact row_nice (by decide) (by omega) (h3 r hr')
  · simp only [tableD, wt, table_wt]
    omega
  · simp only [tableD, PyData.depth]
    have : PyData.depthAll (rs.map rowD) ≤ 1 := depthAll_le.mpr fun d hd => by
      obtain ⟨r, _, rfl⟩ := List.mem_map.mp hd
      rw [row_depth]
      exact Nat.le_refl _
    omega
def RowAt (H : Hp) (p F : Addr) (v : V) (r : Row) : Prop := ∃ b : Addr, v = .ref b ∧ b ≠ p ∧ b ≠ F ∧ H b = some (.tup [.str r.1, .int r.2.1, .int r.2.2])
theorem rows_dp {K : PySem.W.Frag} {H : Hp} {p F : Addr} : ∀ {vs : List V} {rs : List Row}, Paired (RowAt H p F) vs rs → DpAll K (off p H) vs (rs.map rowD)
  | _, _, .nil => .nil
  | _, _, .cons ⟨b, e, b1, _, hb⟩ t => by
    subst e
    exact .cons (.tup (SqT.of (off_at b1 hb)) (.cons (.str _) (.cons (.int _) (.cons (.int _) .nil)))) (rows_dp t)
def sp_table (K : PySem.W.Frag) : Sp := fun vs H Q _ => ∃ (p : Addr) (room : Int) (n : Nat), vs = [.ref p, .int room] ∧ 1 ≤ room ∧ room ≤ 100 ∧ Deck K H p n ∧ n < 800000 ∧
  ∀ (rs : List Row) (v : V) (J : Hp) (n' : Nat), TableOf room rs → Dt K p J v (tableD rs) → n' ≤ n + 1 + 3 * rs.length → Deck K J p n' → Keep p H J → Q v J
section
variable {P : Program} {w : World} {K : PySem.W.Frag} {mg : Str → Option Value} {base : Heap}
theorem ok_table (T : Txt K mg) : FnOk P w K mg base CX0 3 T.a_table T.d_table ["_law_deck_here", "_law_room"] (sp_table K) := by
  have G_draw : FnOk P w K mg base CX0 1 T.a_draw T.d_draw ["_law_deck_here", "_law_many"] (sp_draw K) := ok_draw T
  have G_one : FnOk P w K mg base CX0 2 T.a_one T.d_one ["_law_deck_here", "_law_items"] (sp_one K) := ok_one T
  refine T.F_table.ok sc_table (fun vs H Q E h => ?_) (fun cdv A outer s H vs Q E hr h => ?_)
  · obtain ⟨p, room, n, rfl, _⟩ := h
    rfl
  · obtain ⟨p, room, n, rfl, r1, r2, D, hn, k⟩ := h
    refine ⟨_, (pss_cons (ps_set (i := 2) sc_table.nd rfl (Or.inl rfl) (pe_op op_add pe_int (pe_call G_draw (hr.mono (by omega)) (by rfl) T.g_draw T.F_draw.kp T.b_draw .nil pass0 (pa_cons (pv 0) (pa_cons (pv 1) pa_nil)))))
      (pss_cons (ps_set (i := 3) sc_table.nd rfl (Or.inl rfl) (pe_lst pa_nil))
      (pss_cons (ps_for PassesOwn.never rfl (pi_range1 (by rfl) T.m_range (pa_cons (pv 2) pa_nil)) (pg_name (i := 4) sc_table.nd rfl (Or.inl rfl))
        (pss_cons (ps_set (i := 5) sc_table.nd rfl (Or.inl rfl) (pe_call G_one (hr.mono (by omega)) (by rfl) T.g_one T.F_one.kp T.b_one .nil pass0 (pa_cons (pv 0) (pa_cons (pe_lst (pa_cons pe_str (pa_cons pe_str (pa_cons pe_str (pa_cons pe_str (pa_cons pe_str pa_nil)))))) pa_nil))))
      (pss_one (ps_expr (pe_bm PySem.F.plainAttrs_list PySem.F.slot_list_append PySem.F.type_list_append mt_append (pv 3) (pa_cons (pe_tup (pa_cons (pv 5) (pa_cons (pe_call G_draw (hr.mono (by omega)) (by rfl) T.g_draw T.F_draw.kp T.b_draw .nil pass0 (pa_cons (pv 0) (pa_cons (pv 2) pa_nil))) (pa_cons (pe_call G_draw (hr.mono (by omega)) (by rfl) T.g_draw T.F_draw.kp T.b_draw .nil pass0 (pa_cons (pv 0) (pa_cons (pv 2) pa_nil))) pa_nil)))) pa_nil))))))
      (pss_one (ps_ret (pe_callTy (T := "tuple") call_tuple_of (by rfl) T.m_tuple (by decide +kernel) (pa_cons (pv 3) pa_nil))))))), ?_⟩
    -- how many rows
    refine ⟨_, rfl, _, rfl, p, room, n, rfl, by omega, by omega, D, by omega, fun m J m0 m1 D1 K1 => ⟨_, _, rfl, rfl, by show 0 ≤ sizeLine; decide, fun F hF => ?_⟩⟩
    have FP : F ≠ p := D1.ne_new hF
    refine ⟨_, rfl, 1 + m, rfl, by omega, by omega, for_range (lo := 0) (n := (1 + m).toNat) (fun i σ J' => ∃ (y4 y5 : Option V) (rs : List Row) (vs : List V), σ = [some (.ref p), some (.int room), some (.int (1 + m)), some (.ref F), y4, y5] ∧ rs.length = i ∧ vs.length = i ∧ J' F = some (.lst vs) ∧ Paired (RowAt J' p F) vs rs ∧ (∀ r ∈ rs, RowOf (1 + m) r) ∧ Deck K J' p (n + 1 + 3 * i) ∧ Keep p J J')
      ⟨none, none, [], [], rfl, rfl, rfl, upd_same, .nil, fun r h => (List.not_mem_nil h).elim, D1.put hF, Keep.new hF⟩ ?_ ?_⟩
    · rintro i σ J' hi ⟨y4, y5, rs, vs, rfl, hl, hv, hF', al, hrs, D2, K2⟩
      have hi' : (i : Int) < 1 + m := by omega
      -- the deed
      refine ⟨_, rfl, by show 5 ≤ sizeLine; decide, fun l hl' => ?_⟩
      refine ⟨p, l, _, _, rfl, SqL.of upd_same, D2.ne_new hl', by show 0 < 5; decide, by show 5 < 100000; decide, D2.put hl', by omega, fun j x J3 hx D3 K3 => ?_⟩
      obtain ⟨dd, rfl, hdd⟩ : ∃ dd : Str, x = .str dd ∧ deedOk dd := by
        have mm := List.mem_of_getElem? hx
        simp only [List.mem_cons, List.not_mem_nil, or_false] at mm
        rcases mm with q | q | q | q | q
        · exact ⟨_, q, .inl rfl⟩
        · exact ⟨_, q, .inl rfl⟩
        · exact ⟨_, q, .inr (.inl rfl)⟩
        · exact ⟨_, q, .inr (.inl rfl)⟩
        · exact ⟨_, q, .inr (.inr rfl)⟩
      have K13 := (Keep.new hl').trans K3
      -- its row
      refine ⟨_, rfl, .inl ⟨rfl, _, SqL.of (K13.at FP hF')⟩, _, rfl, _, rfl, _, rfl, p, 1 + m, _, rfl, by omega, by omega, D3, by omega, fun a J4 a0 a1 D4 K4 => ?_⟩
      refine ⟨_, rfl, _, rfl, p, 1 + m, _, rfl, by omega, by omega, D4, by omega, fun b J5 b0 b1 D5 K5 => ?_⟩
      refine ⟨by show 3 ≤ sizeLine; decide, fun t ht => ?_⟩
      have K25 : Keep p J' J5 := (K13.trans K4).trans K5
      have hF5 : J5 F = some (.lst vs) := K25.at FP hF'
      have tF : t ≠ F := (ne_of_none hF5 ht).symm
      have tp : t ≠ p := D5.ne_new ht
      refine ⟨F, vs, _, rfl, rfl, by rw [upd_ne tF.symm]; exact hF5, Nat.lt_of_lt_of_le (by omega : vs.length < 1000) (by decide), ?_⟩
      have hK : Keep p J (upd (upd J5 t (.tup [.str dd, .int a, .int b])) F (.lst (vs ++ [.ref t]))) := by
        have z : Keep p J (upd J5 t (.tup [.str dd, .int a, .int b])) := (K2.trans K25).trans (Keep.new ht)
        exact z.write hF FP
      refine ⟨_, _, rs ++ [(dd, a, b)], vs ++ [.ref t], rfl, by rw [List.length_append, List.length_singleton, hl], by rw [List.length_append, List.length_singleton, hv], upd_same, ?_, ?_, ?_, hK⟩
      · refine paired_snoc (Paired.mapP al fun v r ⟨c, e, c1, c2, c3⟩ => ⟨c, e, c1, c2, ?_⟩) ⟨t, rfl, tp, tF, by rw [upd_ne tF, upd_same]⟩
        rw [upd_ne c2]
        exact (Keep.new (p := p) ht).at c1 (K25.at c1 c3)
      · intro r hr'
        rcases List.mem_append.mp hr' with q | q
        · exact hrs r q
        · rw [List.mem_singleton] at q
          rw [q]
          exact ⟨hdd, a0, a1, b0, b1⟩
      · have D6 := D5.put (o := .tup [.str dd, .int a, .int b]) ht
        have D7 := D1.write hF ((K2.trans K25).trans (Keep.new (o := .tup [.str dd, .int a, .int b]) ht)) D6 (o := .lst (vs ++ [.ref t]))
        exact D7
    · rintro σ J' ⟨y4, y5, rs, vs, rfl, hl, hv, hF', al, hrs, D2, K2⟩
      have el : (rs.length : Int) = 1 + m := by omega
      refine ⟨_, rfl, F, vs, rfl, .inl ⟨SqL.of hF', fun t ht => ?_⟩⟩
      have tp := D2.ne_new ht
      have KT : Keep p J' (upd J' t (.tup vs)) := Keep.new ht
      refine k rs _ _ (n + 1 + 3 * (1 + m).toNat) ⟨by omega, by omega, by rw [el]; exact hrs⟩ (.tup (SqT.of (off_at tp upd_same)) (rows_dp (Paired.mapP al fun v r ⟨c, e, c1, c2, c3⟩ => ⟨c, e, c1, c2, KT.at c1 c3⟩))) (by omega) (D2.put ht) ((K1.trans K2).trans KT)
end

/-! ### what every law's own def needs -/
theorem room_law (e : Env) : Room 50 (callerA.deeper e) := (show Room 51 callerA from ⟨rfl, by decide, by decide⟩).deeper e
theorem show_bool (b : Bool) : PyData.showable (.bool b) = true ∧ PyData.depth (.bool b) ≤ 50 ∧ (PyData.shown (.bool b)).length ≤ sizeLine := by
  refine ⟨by simp only [PyData.showable], by simp only [PyData.depth]; decide, ?_⟩
  cases b <;> simp only [PyData.shown] <;> exact Nat.le_trans (by decide : _ ≤ 5) (by decide)
theorem pow_pos_int {s : Int} (h : 0 < s) : ∀ n : Nat, 0 < s ^ n
  | 0 => by rw [Int.pow_zero]; decide
  | n + 1 => by rw [Int.pow_succ]; exact Int.mul_pos (pow_pos_int h n) h
theorem nice_int {e : Nat} {i : Int} (he : 10 ≤ e) (h : i.natAbs ≤ 1000) : nice e (.int i) = true := by
  have p : 2 ^ 10 ≤ 2 ^ e := Nat.pow_le_pow_right (by decide) he
  simp only [nice, decide_eq_true_eq]
  omega
theorem nice_three {e : Nat} {x y z : Int} (he : 10 ≤ e) (hx : x.natAbs ≤ 1000) (hy : y.natAbs ≤ 1000) (hz : z.natAbs ≤ 1000) : nice e (.tuple [.int x, .int y, .int z]) = true := by
  simp only [nice, niceAll, Bool.and_eq_true]
  exact ⟨by simpa only [nice] using nice_int he hx, by simpa only [nice] using nice_int he hy, by simpa only [nice] using nice_int he hz, trivial⟩
theorem tiny_three {x y z : Int} (hx : x.natAbs ≤ 1000) (hy : y.natAbs ≤ 1000) (hz : z.natAbs ≤ 1000) : Tiny 140 4 1 (.tuple [.int x, .int y, .int z]) :=
  ⟨nice_three (by decide) hx hy hz, by simp [wt, wtAll], by simp [PyData.depth, PyData.depthAll]⟩
theorem tiny_int {x : Int} (hx : x.natAbs ≤ 1000) : Tiny 140 1 0 (.int x) := ⟨nice_int (by decide) hx, by simp [wt], by simp [PyData.depth]⟩
theorem ne_self (x : V) : (!decide (x = x)) = false := by
  rw [decide_eq_true rfl]
  rfl

/-! ### more of small data, and of what is kept -/
theorem Deck.sqt {K : PySem.W.Frag} {H J : Hp} {p a : Addr} {n : Nat} {xs : List V} (D : Deck K H p n) (k : Keep p H J) (h : SqT K H a xs) : SqT K J a xs := by
  obtain ⟨_, _, _, _, hp, _⟩ := D
  exact sameT off_in (sameT k.s (tup_off hp h))
theorem Acc.tupI {K : PySem.W.Frag} {p t : Addr} {n : Nat} {vs : List V} {ds : List PyData} {H0 J : Hp} {xs : List V} {ms : List Int} (A : Acc K p n H0 J vs ds) (c : SqT K J t xs) (e : xs = ms.map V.int) : Acc K p n H0 J (vs ++ [.ref t]) (ds ++ [.tuple (ms.map PyData.int)]) := by
  subst e
  exact A.add (dt_of A.dk c (ints_dp ms))
theorem tiny_ints {ms : List Int} {L : Nat} (h : ∀ x ∈ ms, x.natAbs ≤ 1000) (hl : ms.length < L) : Tiny 143 L 20 (.tuple (ms.map PyData.int)) ∧ Tiny 143 L 20 (.list (ms.map PyData.int)) := by
  have w : wtAll (ms.map PyData.int) = ms.length := by
    clear h hl
    induction ms with
    | nil => rfl
    | cons x r ih => simp only [List.map_cons, wtAll, wt, ih, List.length_cons]; omega
  have q := tiny_tup (e := 143) (W := L) (m := 0) (ds := ms.map PyData.int) (fun d hd => by
    obtain ⟨x, hx, rfl⟩ := List.mem_map.mp hd
    exact ⟨nice_int (by decide) (h x hx), by simp [PyData.depth]⟩) (by rw [w]; exact hl)
  exact ⟨q.1.mono (Nat.le_refl _) (Nat.le_refl _) (by decide), q.2.mono (Nat.le_refl _) (Nat.le_refl _) (by decide)⟩
theorem tiny_pair {z r g : Int} {d : PyData} (hz : z.natAbs ≤ 1000) (hr : r.natAbs ≤ 1000) (hg : g.natAbs ≤ 1000) (t : Tiny 143 4000 20 d) : Tiny 143 4100 21 (.list [.tuple [.int z, .int r, .int g], d]) := by
  have t3 := tiny_three hz hr hg
  have a := t3.we
  have b := t.we
  have c := t3.de
  have e := t.de
  refine ⟨?_, by simp only [wt, wtAll] at *; omega, by simp only [PyData.depth, PyData.depthAll] at *; omega⟩
  simp only [nice, niceAll, Bool.and_true, Bool.and_eq_true]
  exact ⟨by simpa only [nice, niceAll, Bool.and_true, Bool.and_eq_true] using nice_three (e := 143) (by decide) hz hr hg, t.ni⟩
theorem len_tiny {d : PyData} (t : Tiny 143 4000 20 d) : ∀ ds, d = .tuple ds → ds.length ≤ 4000 := fun ds e => by
  have a := t.we
  rw [e] at a
  simp only [wt] at a
  have := wtAll_len ds
  omega
theorem tiny_bools (bs : List Bool) (hl : bs.length < 4000) : Tiny 143 4000 20 (.tuple (bs.map PyData.bool)) := by
  have w : wtAll (bs.map PyData.bool) = bs.length := by
    clear hl
    induction bs with
    | nil => rfl
    | cons x r ih => simp only [List.map_cons, wtAll, wt, ih, List.length_cons]; omega
  have q := tiny_tup (e := 143) (W := 4000) (m := 0) (ds := bs.map PyData.bool) (fun d hd => by
    obtain ⟨x, hx, rfl⟩ := List.mem_map.mp hd
    exact ⟨by simp [nice], by simp [PyData.depth]⟩) (by rw [w]; exact hl)
  exact q.1.mono (Nat.le_refl _) (Nat.le_refl _) (by decide)
theorem Deck.of_grow {K : PySem.W.Frag} {H J : Hp} {p : Addr} {n : Nat} (D : Deck K H p n) (e : Grow H J) : Deck K J p n := by
  obtain ⟨l, ns, c, r, hp, lp, hl, z⟩ := D
  exact ⟨l, ns, c, r, e.at hp, lp, e.seq hl, z⟩
theorem sqT_upd {K : PySem.W.Frag} {J : Hp} {q L : Addr} {xs ys : List V} {o : HO} (h : SqT K J q xs) (hl : J L = some (.lst ys)) : SqT K (upd J L o) q xs := by
  rcases h with (h | ⟨u, h⟩) | h
  · exact Or.inl (Or.inl (by rw [upd_ne (ne_of h hl (by intro z; cases z))]; exact h))
  · exact Or.inl (Or.inr ⟨u, by rw [upd_ne (ne_of h hl (by intro z; cases z))]; exact h⟩)
  · exact Or.inr h
theorem bools_dp {K : PySem.W.Frag} {H : Hp} : ∀ bs : List Bool, DpAll K H (bs.map V.bl) (bs.map PyData.bool)
  | [] => .nil
  | b :: bs => .cons (.bl b) (bools_dp bs)
def isOne (x : Int) : Bool := decide (V.int x = V.int 1)
theorem cut_last {xs : List V} {v : V} (h : xs.getLast? = some v) : cutV xs (some (-1)) none = [v] := by
  have h0 : 0 < xs.length := by
    cases xs with
    | nil => cases h
    | cons _ _ => simp
  have e : HT.sIx xs.length 0 (some (-1)) = xs.length - 1 := by
    show (if (-1 : Int) < 0 then ((-1 : Int) + (xs.length : Int)).toNat else min (-1 : Int).toNat xs.length) = xs.length - 1
    rw [if_pos (by decide)]
    omega
  unfold cutV
  rw [e, HT.sIx_none, show xs.length - (xs.length - 1) = 1 by omega]
  rw [List.getLast?_eq_getElem?] at h
  obtain ⟨hl, hv⟩ := List.getElem?_eq_some_iff.mp h
  rw [← List.getElem_cons_drop hl, hv]
  rfl

/-! ### whom a table asks: the program -/
def houseT (s r g : Int) : PyData := .tuple [.int s, .int r, .int g]
/-- the server that is asked; -1: none -/
def askN (s : Int) (deed : Str) (named asked : Int) : Option Int := if deed = "wait" then none else if deed = "named" then some named else some ((asked + 1).fmod s)
def optV : Option Int → V
  | none => .non
  | some i => .int i
def optD : Option Int → PyData
  | none => .none
  | some i => .int i
/-- the asker behind -/
def nextA (s : Int) (r : Row) (named asked name : Int) : Int × Int × Int :=
  match askN s r.1 named asked with
  | none => (r.2.1, named, asked)
  | some x => if name = asked then (r.2.2, name, x) else (r.2.1, name, x)
def askerD (a : Int × Int × Int) : PyData := .tuple [.int a.1, .int a.2.1, .int a.2.2]
theorem str_dec {x y : Str} : decide (V.str x = V.str y) = decide (x = y) := by
  by_cases h : x = y
  · rw [h, decide_eq_true rfl, decide_eq_true rfl]
  · rw [decide_eq_false h, decide_eq_false fun z => h (V.str.inj z)]
def sp_asks (K : PySem.W.Frag) : Sp := fun vs H Q _ => ∃ (h t a : V) (s r g : Int) (rs : List Row) (i : Nat) (named asked : Int) (row : Row), vs = [h, t, a] ∧ Dp K H h (houseT s r g) ∧ Dp K H t (tableD rs) ∧ Dp K H a (askerD ((i : Int), named, asked)) ∧
  rs[i]? = some row ∧ 0 < s ∧ Q (optV (askN s row.1 named asked)) H
def sp_behind (K : PySem.W.Frag) : Sp := fun vs H Q _ => ∃ (h t a : V) (s r g : Int) (rs : List Row) (i : Nat) (named asked name : Int) (row : Row), vs = [h, t, a, .int name] ∧ Dp K H h (houseT s r g) ∧ Dp K H t (tableD rs) ∧ Dp K H a (askerD ((i : Int), named, asked)) ∧
  rs[i]? = some row ∧ 0 < s ∧ ∀ q, H q = none → Q (.ref q) (upd H q (.tup [.int (nextA s row named asked name).1, .int (nextA s row named asked name).2.1, .int (nextA s row named asked name).2.2]))
section
variable {P : Program} {w : World} {K : PySem.W.Frag} {mg : Str → Option Value} {base : Heap}
theorem ok_asks (T : Txt K mg) : FnOk P w K mg base CX0 1 T.a_asks T.d_asks ["house", "table", "asker"] (sp_asks K) := by
  refine T.F_asks.ok sc_asks (fun vs H Q E h => ?_) (fun cdv A outer s H vs Q E hr h => ?_)
  · obtain ⟨_, _, _, _, _, _, _, _, _, _, _, rfl, _⟩ := h
    rfl
  · obtain ⟨h, t, a, z, r, g, rs, i, named, asked, row, rfl, hh, ht, ha, hrow, z0, k⟩ := h
    refine ⟨_, (pss_cons (ps_asg (pv 2) (pg_tup (by rfl) (pgs_cons (pg_name (i := 3) sc_asks.nd rfl (Or.inl rfl)) (pgs_cons (pg_name (i := 4) sc_asks.nd rfl (Or.inl rfl)) (pgs_cons (pg_name (i := 5) sc_asks.nd rfl (Or.inl rfl)) pgs_nil)))))
      (pss_cons (ps_set (i := 6) sc_asks.nd rfl (Or.inl rfl) (pe_ix ix_tup (pe_ix ix_tup (pv 1) (pv 3) (fun _ _ => rfl)) pe_int (fun _ _ => rfl)))
      (pss_cons (ps_if (pt_cmpR op_eq (pv 6) pe_str (nomark _))
        (pss_one (ps_ret pe_non))
        pss_nil)
      (pss_cons (ps_if (pt_cmpR op_eq (pv 6) pe_str (nomark _))
        (pss_one (ps_ret (pv 4)))
        pss_nil)
      (pss_one (ps_ret (pe_op op_modN (pe_op op_add (pv 5) pe_int) (pe_ix ix_tup (pv 0) pe_int (fun _ _ => rfl))))))))), ?_⟩
    obtain ⟨ah, rfl, sh⟩ := dp_three hh
    obtain ⟨at_, xs, rfl, st, hl, rw'⟩ := dp_table ht
    obtain ⟨aa, rfl, sa⟩ := dp_three ha
    obtain ⟨b, hb, sb⟩ := rw' i row hrow
    refine ⟨_, rfl, aa, _, rfl, sa, rfl, _, _, rfl, _, _, rfl, _, _, rfl, rfl, ?_⟩
    refine ⟨_, rfl, _, rfl, at_, xs, (i : Int), _, rfl, rfl, st, atI_nat hb, b, _, 0, _, rfl, rfl, sb, rfl, ?_⟩
    refine ⟨_, rfl, rfl, _, rfl, ?_⟩
    rw [str_dec]
    by_cases e1 : row.1 = "wait"
    · rw [decide_eq_true e1]
      have e : askN z row.1 named asked = none := if_pos e1
      rw [e] at k
      exact iteT k
    · rw [decide_eq_false e1]
      refine iteF ⟨_, rfl, rfl, _, rfl, ?_⟩
      rw [str_dec]
      by_cases e2 : row.1 = "named"
      · rw [decide_eq_true e2]
        have e : askN z row.1 named asked = some named := by
          unfold askN
          rw [if_neg e1, if_pos e2]
        rw [e] at k
        exact iteT ⟨_, rfl, k⟩
      · rw [decide_eq_false e2]
        have e : askN z row.1 named asked = some ((asked + 1).fmod z) := by
          unfold askN
          rw [if_neg e1, if_neg e2]
        rw [e] at k
        exact iteF ⟨_, rfl, _, _, rfl, rfl, _, rfl, ah, _, 0, _, rfl, rfl, sh, rfl, _, _, rfl, rfl, by omega, k⟩
theorem ok_behind (T : Txt K mg) : FnOk P w K mg base CX0 2 T.a_behind T.d_behind ["house", "table", "asker", "name"] (sp_behind K) := by
  have G_asks : FnOk P w K mg base CX0 1 T.a_asks T.d_asks ["house", "table", "asker"] (sp_asks K) := ok_asks T
  refine T.F_behind.ok sc_behind (fun vs H Q E h => ?_) (fun cdv A outer s H vs Q E hr h => ?_)
  · obtain ⟨_, _, _, _, _, _, _, _, _, _, _, _, rfl, _⟩ := h
    rfl
  · obtain ⟨h, t, a, z, r, g, rs, i, named, asked, name, row, rfl, hh, ht, ha, hrow, z0, k⟩ := h
    refine ⟨_, (pss_cons (ps_asg (pv 2) (pg_tup (by rfl) (pgs_cons (pg_name (i := 4) sc_behind.nd rfl (Or.inl rfl)) (pgs_cons (pg_name (i := 5) sc_behind.nd rfl (Or.inl rfl)) (pgs_cons (pg_name (i := 6) sc_behind.nd rfl (Or.inl rfl)) pgs_nil)))))
      (pss_cons (ps_asg (pe_ix ix_tup (pv 1) (pv 4) (fun _ _ => rfl)) (pg_tup (by rfl) (pgs_cons (pg_name (i := 7) sc_behind.nd rfl (Or.inl rfl)) (pgs_cons (pg_name (i := 8) sc_behind.nd rfl (Or.inl rfl)) (pgs_cons (pg_name (i := 9) sc_behind.nd rfl (Or.inl rfl)) pgs_nil)))))
      (pss_cons (ps_set (i := 10) sc_behind.nd rfl (Or.inl rfl) (pe_call G_asks (hr.mono (by omega)) (by rfl) T.g_asks T.F_asks.kp T.b_asks .nil pass0 (pa_cons (pv 0) (pa_cons (pv 1) (pa_cons (pv 2) pa_nil)))))
      (pss_cons (ps_if (pt_cmpR op_isN (pv 10) pe_non (nomark _))
        (pss_one (ps_ret (pe_tup (pa_cons (pv 8) (pa_cons (pv 5) (pa_cons (pv 6) pa_nil))))))
        pss_nil)
      (pss_cons (ps_if (pt_cmpR op_eq (pv 3) (pv 6) (nomark _))
        (pss_one (ps_ret (pe_tup (pa_cons (pv 9) (pa_cons (pv 3) (pa_cons (pv 10) pa_nil))))))
        pss_nil)
      (pss_one (ps_ret (pe_tup (pa_cons (pv 8) (pa_cons (pv 3) (pa_cons (pv 10) pa_nil))))))))))), ?_⟩
    obtain ⟨at_, xs, rfl, st, hl, rw'⟩ := dp_table ht
    obtain ⟨aa, rfl, sa⟩ := dp_three ha
    obtain ⟨b, hb, sb⟩ := rw' i row hrow
    refine ⟨_, rfl, aa, _, rfl, sa, rfl, _, _, rfl, _, _, rfl, _, _, rfl, rfl, ?_⟩
    refine ⟨_, rfl, _, rfl, at_, xs, (i : Int), _, rfl, rfl, st, atI_nat hb, b, _, rfl, sb, rfl, _, _, rfl, _, _, rfl, _, _, rfl, rfl, ?_⟩
    refine ⟨_, rfl, _, rfl, _, rfl, h, .ref at_, .ref aa, z, r, g, rs, i, named, asked, row, rfl, hh, ht, ha, hrow, z0, ?_⟩
    refine ⟨_, rfl, rfl, _, rfl, ?_⟩
    cases e : askN z row.1 named asked with
    | none =>
      have e2 : nextA z row named asked name = (row.2.1, named, asked) := by
        unfold nextA
        rw [e]
      rw [e2] at k
      refine iteT ⟨_, rfl, _, rfl, _, rfl, by show 3 ≤ sizeLine; decide, fun q hq => k q hq⟩
    | some x =>
      refine iteF ⟨_, rfl, _, rfl, rfl, _, rfl, ?_⟩
      by_cases en : name = asked
      · have e2 : nextA z row named asked name = (row.2.2, name, x) := by
          unfold nextA
          rw [e]
          exact if_pos en
        rw [e2] at k
        rw [decide_eq_true (by rw [en])]
        exact iteT ⟨_, rfl, _, rfl, _, rfl, by show 3 ≤ sizeLine; decide, fun q hq => k q hq⟩
      · have e2 : nextA z row named asked name = (row.2.1, name, x) := by
          unfold nextA
          rw [e]
          exact if_neg en
        rw [e2] at k
        rw [decide_eq_false fun q => en (V.int.inj q)]
        exact iteF ⟨_, rfl, _, rfl, _, rfl, by show 3 ≤ sizeLine; decide, fun q hq => k q hq⟩
end

def sp_lasked (K : PySem.W.Frag) : Sp := fun vs H Q _ => ∃ (h t a : V) (s r g : Int) (rs : List Row) (i : Nat) (named asked : Int) (row : Row), vs = [h, t, a] ∧ Dp K H h (houseT s r g) ∧ Dp K H t (tableD rs) ∧ Dp K H a (askerD ((i : Int), named, asked)) ∧
  rs[i]? = some row ∧ deedOk row.1 ∧ 0 < s ∧ Q (.int ((askN s row.1 named asked).getD (-1))) H
def sp_later (K : PySem.W.Frag) : Sp := fun vs H Q _ => ∃ (h t a : V) (s r g : Int) (rs : List Row) (i : Nat) (named asked name : Int) (row : Row), vs = [h, t, a, .int name] ∧ Dp K H h (houseT s r g) ∧ Dp K H t (tableD rs) ∧ Dp K H a (askerD ((i : Int), named, asked)) ∧
  rs[i]? = some row ∧ deedOk row.1 ∧ 0 < s ∧ ∀ q, H q = none → Q (.ref q) (upd H q (.tup [.int (nextA s row named asked name).1, .int (nextA s row named asked name).2.1, .int (nextA s row named asked name).2.2]))
theorem str_ne1 : ¬ ("next" : Str) = "named" := by decide +kernel
theorem str_ne2 : ¬ ("wait" : Str) = "named" := by decide +kernel
theorem str_ne3 : ¬ ("wait" : Str) = "next" := by decide +kernel
theorem str_ne4 : ¬ ("named" : Str) = "wait" := by decide +kernel
theorem str_ne5 : ¬ ("next" : Str) = "wait" := by decide +kernel
section
variable {P : Program} {w : World} {K : PySem.W.Frag} {mg : Str → Option Value} {base : Heap}
theorem ok_lasked (T : Txt K mg) : FnOk P w K mg base CX0 1 T.a_asked T.d_asked ["_law_house_here", "_law_table_here", "_law_asker"] (sp_lasked K) := by
  refine T.F_asked.ok sc_asked (fun vs H Q E h => ?_) (fun cdv A outer s H vs Q E hr h => ?_)
  · obtain ⟨_, _, _, _, _, _, _, _, _, _, _, rfl, _⟩ := h
    rfl
  · obtain ⟨h, t, a, z, r, g, rs, i, named, asked, row, rfl, hh, ht, ha, hrow, hdeed, z0, k⟩ := h
    refine ⟨_, (pss_cons (ps_set (i := 3) sc_asked.nd rfl (Or.inl rfl) (pe_ix ix_tup (pe_ix ix_tup (pv 1) (pe_ix ix_tup (pv 2) pe_int (fun _ _ => rfl)) (fun _ _ => rfl)) pe_int (fun _ _ => rfl)))
      (pss_cons (ps_if (pt_cmpR op_eq (pv 3) pe_str (nomark _))
        (pss_one (ps_ret (pe_ix ix_tup (pv 2) pe_int (fun _ _ => rfl))))
        pss_nil)
      (pss_one (ps_ret (pe_ifExp (pt_cmpR op_eq (pv 3) pe_str (nomark _)) (pe_op op_modN (pe_op op_add (pe_ix ix_tup (pv 2) pe_int (fun _ _ => rfl)) pe_int) (pe_ix ix_tup (pv 0) pe_int (fun _ _ => rfl))) (pe_un un_neg pe_int)))))), ?_⟩
    obtain ⟨ah, rfl, sh⟩ := dp_three hh
    obtain ⟨at_, xs, rfl, st, hl, rw'⟩ := dp_table ht
    obtain ⟨aa, rfl, sa⟩ := dp_three ha
    obtain ⟨b, hb, sb⟩ := rw' i row hrow
    refine ⟨_, rfl, _, rfl, aa, _, 0, _, rfl, rfl, sa, rfl, at_, xs, (i : Int), _, rfl, rfl, st, atI_nat hb, b, _, 0, _, rfl, rfl, sb, rfl, ?_⟩
    refine ⟨_, rfl, rfl, _, rfl, ?_⟩
    rw [str_dec]
    rcases hdeed with e | e | e
    · rw [decide_eq_true e]
      have q : askN z row.1 named asked = some named := by
        unfold askN
        rw [e, if_neg str_ne4, if_pos rfl]
      rw [q] at k
      exact iteT ⟨_, rfl, aa, _, 1, _, rfl, rfl, sa, rfl, k⟩
    · rw [decide_eq_false (by rw [e]; exact str_ne1)]
      have q : askN z row.1 named asked = some ((asked + 1).fmod z) := by
        unfold askN
        rw [e, if_neg str_ne5, if_neg str_ne1]
      rw [q] at k
      refine iteF ⟨_, rfl, rfl, _, rfl, ?_⟩
      rw [str_dec, decide_eq_true e]
      exact iteT ⟨_, rfl, aa, _, 2, _, rfl, rfl, sa, rfl, _, _, rfl, rfl, _, rfl, ah, _, 0, _, rfl, rfl, sh, rfl, _, _, rfl, rfl, by omega, k⟩
    · rw [decide_eq_false (by rw [e]; exact str_ne2)]
      have q : askN z row.1 named asked = none := by
        unfold askN
        rw [e, if_pos rfl]
      rw [q] at k
      refine iteF ⟨_, rfl, rfl, _, rfl, ?_⟩
      rw [str_dec, decide_eq_false (by rw [e]; exact str_ne3)]
      exact iteF ⟨1, rfl, k⟩
theorem ok_later (T : Txt K mg) : FnOk P w K mg base CX0 2 T.a_later T.d_later ["_law_house_here", "_law_table_here", "_law_asker", "_law_name"] (sp_later K) := by
  have G_asked : FnOk P w K mg base CX0 1 T.a_asked T.d_asked ["_law_house_here", "_law_table_here", "_law_asker"] (sp_lasked K) := ok_lasked T
  refine T.F_later.ok sc_later (fun vs H Q E h => ?_) (fun cdv A outer s H vs Q E hr h => ?_)
  · obtain ⟨_, _, _, _, _, _, _, _, _, _, _, _, rfl, _⟩ := h
    rfl
  · obtain ⟨h, t, a, z, r, g, rs, i, named, asked, name, row, rfl, hh, ht, ha, hrow, hdeed, z0, k⟩ := h
    refine ⟨_, (pss_cons (ps_asg (pv 2) (pg_tup (by rfl) (pgs_cons (pg_name (i := 4) sc_later.nd rfl (Or.inl rfl)) (pgs_cons (pg_name (i := 5) sc_later.nd rfl (Or.inl rfl)) (pgs_cons (pg_name (i := 6) sc_later.nd rfl (Or.inl rfl)) pgs_nil)))))
      (pss_cons (ps_asg (pe_ix ix_tup (pv 1) (pv 4) (fun _ _ => rfl)) (pg_tup (by rfl) (pgs_cons (pg_name (i := 7) sc_later.nd rfl (Or.inl rfl)) (pgs_cons (pg_name (i := 8) sc_later.nd rfl (Or.inl rfl)) (pgs_cons (pg_name (i := 9) sc_later.nd rfl (Or.inl rfl)) pgs_nil)))))
      (pss_cons (ps_if (pt_cmpR op_eq (pv 7) pe_str (nomark _))
        (pss_one (ps_ret (pe_tup (pa_cons (pv 8) (pa_cons (pv 5) (pa_cons (pv 6) pa_nil))))))
        pss_nil)
      (pss_one (ps_ret (pe_tup (pa_cons (pe_ifExp (pt_cmpR op_eq (pv 3) (pv 6) (nomark _)) (pv 9) (pv 8)) (pa_cons (pv 3) (pa_cons (pe_call G_asked (hr.mono (by omega)) (by rfl) T.g_asked T.F_asked.kp T.b_asked .nil pass0 (pa_cons (pv 0) (pa_cons (pv 1) (pa_cons (pv 2) pa_nil)))) pa_nil))))))))), ?_⟩
    obtain ⟨at_, xs, rfl, st, hl, rw'⟩ := dp_table ht
    obtain ⟨aa, rfl, sa⟩ := dp_three ha
    obtain ⟨b, hb, sb⟩ := rw' i row hrow
    refine ⟨_, rfl, aa, _, rfl, sa, rfl, _, _, rfl, _, _, rfl, _, _, rfl, rfl, ?_⟩
    refine ⟨_, rfl, _, rfl, at_, xs, (i : Int), _, rfl, rfl, st, atI_nat hb, b, _, rfl, sb, rfl, _, _, rfl, _, _, rfl, _, _, rfl, rfl, ?_⟩
    refine ⟨_, rfl, rfl, _, rfl, ?_⟩
    rw [str_dec]
    by_cases e1 : row.1 = "wait"
    · rw [decide_eq_true e1]
      have e2 : nextA z row named asked name = (row.2.1, named, asked) := by
        unfold nextA askN
        rw [if_pos e1]
      rw [e2] at k
      exact iteT ⟨_, rfl, _, rfl, _, rfl, by show 3 ≤ sizeLine; decide, fun q hq => k q hq⟩
    · rw [decide_eq_false e1]
      obtain ⟨x, hx⟩ : ∃ x, askN z row.1 named asked = some x := by
        unfold askN
        rw [if_neg e1]
        split <;> exact ⟨_, rfl⟩
      refine iteF ⟨_, rfl, _, rfl, rfl, _, rfl, ?_⟩
      by_cases en : name = asked
      · have e2 : nextA z row named asked name = (row.2.2, name, x) := by
          unfold nextA
          rw [hx]
          exact if_pos en
        rw [e2] at k
        rw [decide_eq_true (by rw [en])]
        refine iteT ⟨_, rfl, _, rfl, _, rfl, _, rfl, _, rfl, h, .ref at_, .ref aa, z, r, g, rs, i, named, asked, row, rfl, hh, ht, ha, hrow, hdeed, z0, ?_⟩
        rw [hx]
        exact ⟨by show 3 ≤ sizeLine; decide, fun q hq => k q hq⟩
      · have e2 : nextA z row named asked name = (row.2.1, name, x) := by
          unfold nextA
          rw [hx]
          exact if_neg en
        rw [e2] at k
        rw [decide_eq_false fun q => en (V.int.inj q)]
        refine iteF ⟨_, rfl, _, rfl, _, rfl, _, rfl, _, rfl, h, .ref at_, .ref aa, z, r, g, rs, i, named, asked, row, rfl, hh, ht, ha, hrow, hdeed, z0, ?_⟩
        rw [hx]
        exact ⟨by show 3 ≤ sizeLine; decide, fun q hq => k q hq⟩
end

/-! ### askers are small -/
theorem ask_small {s : Int} {x : Str} {named asked : Int} (hs : 0 < s) (n0 : 0 ≤ named) (n1 : named < s) : ∀ y, askN s x named asked = some y → 0 ≤ y ∧ y < s := by
  intro y h
  unfold askN at h
  split at h
  · cases h
  · split at h
    · cases h
      exact ⟨n0, n1⟩
    · cases h
      exact ⟨fmod_lo hs, fmod_hi hs⟩
theorem next_small {s : Int} {row : Row} {named asked name m : Int} (hr : RowOf m row) (hm : m ≤ 100) (hs : 0 < s) (s4 : s ≤ 4) (n0 : 0 ≤ named) (n1 : named < s) (a0 : -1 ≤ asked) (a1 : asked < s) (k0 : 0 ≤ name) (k1 : name < s) :
    (nextA s row named asked name).1.natAbs ≤ 1000 ∧ (nextA s row named asked name).2.1.natAbs ≤ 1000 ∧ (nextA s row named asked name).2.2.natAbs ≤ 1000 := by
  obtain ⟨_, r0, r1, r2, r3⟩ := hr
  unfold nextA
  cases e : askN s row.1 named asked with
  | none => exact ⟨by show row.2.1.natAbs ≤ 1000; omega, by show named.natAbs ≤ 1000; omega, by show asked.natAbs ≤ 1000; omega⟩
  | some y =>
    obtain ⟨y0, y1⟩ := ask_small hs n0 n1 y e
    by_cases en : name = asked
    · simp only [en, if_true]
      exact ⟨by omega, by omega, by omega⟩
    · simp only [en, if_false]
      exact ⟨by omega, by omega, by omega⟩
theorem next_in {s : Int} {row : Row} {named asked name m : Int} (hr : RowOf m row) (hs : 0 < s) (n0 : 0 ≤ named) (n1 : named < s) (a0 : -1 ≤ asked) (a1 : asked < s) (k0 : 0 ≤ name) (k1 : name < s) :
    (0 ≤ (nextA s row named asked name).1 ∧ (nextA s row named asked name).1 < m) ∧ (0 ≤ (nextA s row named asked name).2.1 ∧ (nextA s row named asked name).2.1 < s) ∧ -1 ≤ (nextA s row named asked name).2.2 ∧ (nextA s row named asked name).2.2 < s := by
  obtain ⟨_, r0, r1, r2, r3⟩ := hr
  unfold nextA
  cases e : askN s row.1 named asked with
  | none => exact ⟨⟨r0, r1⟩, ⟨n0, n1⟩, a0, a1⟩
  | some y =>
    obtain ⟨y0, y1⟩ := ask_small hs n0 n1 y e
    by_cases en : name = asked
    · simp only [en, if_true]
      exact ⟨⟨r2, r3⟩, ⟨by omega, by omega⟩, by omega, y1⟩
    · simp only [en, if_false]
      exact ⟨⟨r0, r1⟩, ⟨k0, k1⟩, by omega, y1⟩

/-! ### one of the items of a tuple -/
def sp_oneT (K : PySem.W.Frag) : Sp := fun vs H Q _ => ∃ (p a : Addr) (xs : List V) (n : Nat), vs = [.ref p, .ref a] ∧ SqT K H a xs ∧ 0 < xs.length ∧ xs.length < 100000 ∧ Deck K H p n ∧ n < 1000000 ∧
  ∀ (i : Nat) (x : V) (J : Hp), xs[i]? = some x → Deck K J p (n + 1) → Keep p H J → Q x J
section
variable {P : Program} {w : World} {K : PySem.W.Frag} {mg : Str → Option Value} {base : Heap}
theorem ok_oneT (T : Txt K mg) : FnOk P w K mg base CX0 2 T.a_one T.d_one ["_law_deck_here", "_law_items"] (sp_oneT K) := by
  have G_draw : FnOk P w K mg base CX0 1 T.a_draw T.d_draw ["_law_deck_here", "_law_many"] (sp_draw K) := ok_draw T
  refine T.F_one.ok sc_one (fun vs H Q E h => ?_) (fun cdv A outer s H vs Q E hr h => ?_)
  · obtain ⟨p, a, xs, n, rfl, _⟩ := h
    rfl
  · obtain ⟨p, a, xs, n, rfl, hx, x0, x1, D, hn, k⟩ := h
    refine ⟨_, (pss_one (ps_ret (pe_ix ix_seq (pv 1) (pe_call G_draw (hr.mono (by omega)) (by rfl) T.g_draw T.F_draw.kp T.b_draw .nil pass0 (pa_cons (pv 0) (pa_cons (pe_callB (id := "len") call_len_seq (by rfl) T.m_len (by decide +kernel) (pa_cons (pv 1) pa_nil)) pa_nil))) (fun _ _ => rfl)))), ?_⟩
    refine ⟨_, rfl, _, rfl, _, rfl, a, xs, rfl, .inr hx, p, (xs.length : Int), n, rfl, by omega, by omega, D, hn, fun r J r0 r1 DJ KJ => ?_⟩
    obtain ⟨i, rfl⟩ : ∃ i : Nat, r = (i : Int) := ⟨r.toNat, (Int.toNat_of_nonneg r0).symm⟩
    have hi : i < xs.length := by omega
    refine rIx_of (.inr (D.sqt KJ hx)) (atI_nat (List.getElem?_eq_getElem hi)) ?_
    exact k i _ J (List.getElem?_eq_getElem hi) DJ KJ
end

/-! ### what may be told -/
def tellD (o : Option Int) (out : List Int) : List PyData := match o with
  | none => [.tuple [.int (-1), .int (-1)]]
  | some s => out.map fun k => .tuple [.int s, .int k]
def sp_tellings (K : PySem.W.Frag) (tb : Addr) : Sp := fun vs H Q _ => ∃ (a : Addr) (o : Option Int) (ns : List Int), vs = [.ref a, optV o] ∧ SqT K H a (ns.map V.int) ∧ ns.length < 60 ∧ GxR.TabG H tb ∧
  ∀ (out : List Int) (t : Addr) (us : List V) (J : Hp), (∀ s, o = some s → Sorted out (ahead s ns)) → out.length < 60 → Grow H J → SqT K J t us → DpAll K J us (tellD o out) → Q (.ref t) J
section
variable {P : Program} {w : World} {K : PySem.W.Frag} {mg : Str → Option Value} {base : Heap}
theorem ok_tellings (T : Txt K mg) (TB : GxR.TabB base mg T.c_tellings T.p_tellings) : FnOk P w K mg base CX0 2 T.a_tellings T.d_tellings ["heads", "server"] (sp_tellings K T.p_tellings) := by
  have G_named_by : FnOk P w K mg base CX0 1 T.a_named_by T.d_named_by ["heads", "server"] (sp_named K) := ok_named T
  refine Fun.okC T.F_tellings T.h_tellings sc_tellings (fun vs H Q E h => ?_) (fun A outer s H vs Q E hr h => ?_)
  · obtain ⟨a, o, ns, rfl, _⟩ := h
    rfl
  · obtain ⟨a, o, ns, rfl, hx, hl, hT, k⟩ := h
    refine ⟨_, (pss_cons (ps_if (pt_cmpR op_isN (pv 1) pe_non (nomark _))
        (pss_one (ps_ret (pe_tup (pa_cons (pe_glob (v := .ref T.a_NONE_ASKED) rfl T.g_NONE_ASKED rfl) pa_nil))))
        pss_nil)
      (pss_one (ps_ret (pe_tupO (c := T.c_tellings) (T := T.p_tellings) hr (by rfl) T.m_tuple TB rfl ⟨rfl, rfl, by decide +kernel, rfl, rfl, gen_free (by decide +kernel)⟩ (pe_call G_named_by (hr.mono (by omega)) (by rfl) T.g_named_by T.F_named_by.kp T.b_named_by .nil pass0 (pa_cons (pv 0) (pa_cons (pv 1) pa_nil))) (fun _ => rfl) rfl)))), ?_⟩
    cases o with
    | none =>
      refine ⟨_, rfl, rfl, _, rfl, iteT ?_⟩
      have qc : SqT K H T.a_NONE_ASKED [.int (-1), .int (-1)] := sq_any T.q_NONE_ASKED
      refine ⟨by show 1 ≤ sizeLine; decide, fun t ht => ?_⟩
      have g1 : Grow H (upd H t (.tup [.ref T.a_NONE_ASKED])) := Grow.new ht
      exact k [] t _ _ (fun s e => by cases e) (by decide) g1 (SqT.of upd_same) (.cons (.tup (g1.tup qc) (.cons (.int _) (.cons (.int _) .nil))) .nil)
    | some s' =>
      refine ⟨_, rfl, rfl, _, rfl, iteF ?_⟩
      refine ⟨_, rfl, _, rfl, a, s', ns, rfl, hx, hl, fun out u J1 so lo S1 h1 => ?_⟩
      have g1 := Grow.of_same S1
      refine ⟨out.length, fun i v => ∃ t, ∃ j, out[i]? = some j ∧ v = .int j t, fun _ => true, fun i => .tuple [.int s', .int (out.getD i 0)], Nat.le_trans (Nat.le_of_lt lo) (by decide), g1.t.tab hT, fun pins s1 uv I1 ru => ?_, fun t vs H2 g2 hn h2 hd => ?_⟩
      · cases ru
        obtain ⟨its, rv, isT, _⟩ := I1.tuple (SqT.of h1)
        obtain ⟨ps, hP, _⟩ := g1.t.tab hT
        have hPo := I1.hok _ _ hP
        have il : its.length = out.length := by have := rv.length; rw [List.length_map] at this; omega
        have item : ∀ (i : Nat) v, its[i]? = some v → ∃ t, ∃ j, out[i]? = some j ∧ v = .int j t := fun i v hv => by
          have lt : i < out.length := il ▸ (List.getElem?_eq_some_iff.mp hv).1
          obtain ⟨v', e, t, rfl⟩ := rv.get (i := i) (x := .int out[i]) (by rw [List.getElem?_map, List.getElem?_eq_getElem lt]; rfl)
          rw [e] at hv
          cases hv
          exact ⟨t, _, List.getElem?_eq_getElem lt, rfl⟩
        refine ⟨?_, ?_⟩
        · obtain ⟨ob, fp0, St, o1, o2, o3, o4, o5⟩ := over_tup (X := _) (I1.ok.hd rfl) isT hPo
          refine ⟨ob, fp0, St, o1, fun A' hA => ?_, o3, o4, o5⟩
          have W := o2 A' hA
          rw [il] at W
          refine { W with item := fun i s Q E hi st hQ => W.item i s Q E hi st fun v h' tk hv => hQ v h' tk (item i v hv) }
        · obtain ⟨u0, c0, r0, hc0, hcell⟩ := Inv.freeAt (i := 1) (x := "server") I1 rfl rfl rfl
          obtain ⟨tk0, e0⟩ : ∃ t, u0 = .int s' t := r0
          subst e0
          intro cenv A' E' i v s2 m2 hv hsc hcl hA hns hm2 hk
          obtain ⟨tv, j, hj, rfl⟩ := hv
          have hkind : cenv.scope.kind = .function := by rw [hsc]
          have cellAt : s2.heap.IsCell c0 (some (.int s' tk0)) := by
            obtain ⟨ob, ho, hd⟩ := hcell
            refine ⟨ob, hk c0 ob (fun z => ?_) ho, hd⟩
            have : s1.heap.get? T.p_tellings = _ := hPo
            rw [z, this] at ho
            cases ho
            cases hd
          have cellIn : cenv.cells.lookup ("server" : Str) = some c0 := by
            rw [hcl]
            exact clo_at hc0 _ _ (.inl (by decide +kernel))
          refine ⟨gt_nil rfl _, fun _ => ?_⟩
          have ga : ∀ p : Pos, GV P w A' cenv s2 (.Name "server" p) (IsI s') := fun p => gv_free (x := "server") hkind (by rw [hsc]; decide +kernel) cellIn cellAt ⟨_, rfl⟩
          have gb : ∀ p : Pos, GV P w A' cenv s2 (.Name "name" p) (IsI j) := fun p => gv_loc (x := "name") hkind (by rw [hsc]; decide +kernel) hns hm2 ⟨_, rfl⟩
          refine wpAny_mono (gm_two (ga _) (gb _) rfl E') (fun y s3 ⟨⟨q, u, v, ey, ⟨tu, eu⟩, ⟨tw, ew⟩, n1, n2⟩, k3⟩ => ⟨?_, k3⟩) fun _ _ z => z
          subst eu
          subst ew
          refine ⟨[(q, { cls := .type "tuple", data := .seq [Value.int s' tu, Value.int j tw].toArray })], ⟨q, [(q, [.int s', .int j])], ey, .cons ⟨rfl, by show 2 ≤ sizeLine; decide, _, .cons ⟨tu, rfl⟩ (.cons ⟨tw, rfl⟩ .nil), rfl, _, rfl⟩ .nil, fun H2 _ hp => ?_⟩, by simp, fun p hp => ?_⟩
          · have z := hp _ List.mem_cons_self
            have ej : out.getD i 0 = j := by rw [List.getD_eq_getElem?_getD, hj]; rfl
            show Dp K H2 (.ref q) (.tuple [.int s', .int (out.getD i 0)])
            rw [ej]
            exact .tup (SqT.of z) (.cons (.int _) (.cons (.int _) .nil))
          · rw [List.mem_singleton.mp hp]
            exact ⟨n1, n2⟩
      · refine k out t vs H2 (fun s e => by cases e; exact so) lo (g1.trans g2) (SqT.of h2) ?_
        have e : (((List.range out.length).filter fun _ => true).map fun i => PyData.tuple [.int s', .int (out.getD i 0)]) = tellD (some s') out := by
          rw [List.filter_eq_self.mpr fun _ _ => rfl]
          unfold tellD
          refine List.ext_getElem? fun i => ?_
          rw [List.getElem?_map, List.getElem?_map]
          by_cases lt : i < out.length
          · rw [List.getElem?_range lt, List.getElem?_eq_getElem lt]
            show some (PyData.tuple [.int s', .int (out.getD i 0)]) = some (PyData.tuple [.int s', .int out[i]])
            rw [List.getD_eq_getElem?_getD, List.getElem?_eq_getElem lt]
            rfl
          · rw [List.getElem?_eq_none (by rw [List.length_range]; omega), List.getElem?_eq_none (by omega)]
            rfl
        rw [← e]
        exact hd
end

/-! ### what is a telling -/
def tellB (z : Int) : PyData → Bool
  | .tuple ds => decide (ds.length = 2) && ds.all (wholeD (-1) (z - 1))
  | _ => false
theorem tellB_pair {z : Int} {d : PyData} (h : tellB z d = true) : ∃ a b, d = .tuple [.int a, .int b] ∧ -1 ≤ a ∧ a ≤ z - 1 ∧ -1 ≤ b ∧ b ≤ z - 1 := by
  cases d with
  | tuple ds =>
    simp only [tellB, Bool.and_eq_true, decide_eq_true_eq] at h
    obtain ⟨h1, h2⟩ := h
    match ds, h1, h2 with
    | [x, y], _, h2 =>
      simp only [List.all_cons, List.all_nil, Bool.and_true, Bool.and_eq_true] at h2
      obtain ⟨a, rfl, a1, a2⟩ := whole_int h2.1
      obtain ⟨b, rfl, b1, b2⟩ := whole_int h2.2
      exact ⟨a, b, rfl, a1, a2, b1, b2⟩
  | _ => exact absurd h (by simp [tellB])
def sp_istelling (K : PySem.W.Frag) : Sp := fun vs H Q _ => ∃ (th : Addr) (v : V) (z r g : Int) (d : PyData), vs = [.ref th, v] ∧ SqT K H th [.int z, .int r, .int g] ∧ Dp K H v d ∧ ∀ J, Same H J → Q (.bl (tellB z d)) J
section
variable {P : Program} {w : World} {K : PySem.W.Frag} {mg : Str → Option Value} {base : Heap}
theorem ok_istelling (T : Txt K mg) : FnOk P w K mg base CX0 2 T.a_is_telling T.d_is_telling ["house", "value"] (sp_istelling K) := by
  have G_whole : FnOk P w K mg base CX0 1 T.a_whole T.d_whole ["value", "low", "high"] (sp_whole K) := ok_whole T
  have G_tuple_of : FnOk P w K mg base CX0 1 T.a_tuple_of T.d_tuple_of ["value", "many"] (sp_tupleof K) := ok_tupleof T
  refine T.F_is_telling.ok sc_is_telling (fun vs H Q E h => ?_) (fun cdv A outer s H vs Q E hr h => ?_)
  · obtain ⟨th, v, z, r, g, d, rfl, _⟩ := h
    rfl
  · obtain ⟨th, v, z, r, g, d, rfl, hth, hd, k⟩ := h
    refine ⟨_, (pss_one (ps_ret (pe_and (pe_call G_tuple_of (hr.mono (by omega)) (by rfl) T.g_tuple_of T.F_tuple_of.kp T.b_tuple_of .nil pass0 (pa_cons (pv 1) (pa_cons pe_int pa_nil))) (pe_one (pe_callB (id := "all") (cr_all rfl) (by rfl) T.m_all (by decide +kernel) (pa_cons (pe_lc (own := [("part", 2)]) (g := gName 2) (by rfl) sc_is_telling.nd (pi_tup (pv 1)) (blkOk_by (own := [("part", 2)]) (N := ["house", "value", "part"]) (sc := defScope s_is_telling) (by decide +kernel)) (fun _ _ _ _ _ => (pg_name (i := 2) sc_is_telling.nd rfl (Or.inl rfl))) (fun _ _ _ _ _ => pts_nil) (fun _ _ _ _ _ => (pe_call G_whole (hr.mono (by omega)) (by rfl) T.g_whole T.F_whole.kp T.b_whole .nil pass0 (pa_cons (pv 2) (pa_cons (pe_un un_neg pe_int) (pa_cons (pe_op op_sub (pe_ix (ixTK K rfl) (pv 0) pe_int (fun _ _ => rfl)) pe_int) pa_nil)))))) pa_nil)))))), ?_⟩
    refine ⟨_, rfl, v, d, 2, rfl, hd, _, rfl, ?_⟩
    cases ht : tupD 2 d with
    | false =>
      have e : tellB z d = false := by
        cases d with
        | tuple ds =>
          have n2 : ¬ ds.length = 2 := fun e2 => by
            simp [tupD, e2] at ht
          simp only [tellB, decide_eq_false n2, Bool.false_and]
        | _ => rfl
      rw [e] at k
      exact iteF (k H (Same.refl H))
    | true =>
      obtain ⟨ds, rfl, dl⟩ : ∃ ds, d = .tuple ds ∧ ds.length = 2 := by
        cases d with
        | tuple ds => exact ⟨ds, rfl, by simp only [tupD, decide_eq_true_eq] at ht; omega⟩
        | _ => exact absurd ht (by simp [tupD])
      have eT : tellB z (.tuple ds) = ds.all (wholeD (-1) (z - 1)) := by simp only [tellB, dl, decide_true, Bool.true_and]
      rw [eT] at k
      cases hd with
      | tup h1 h2 =>
      rename_i t xs
      have hle := dpAll_len h2
      refine iteT ⟨_, rfl, t, rfl, ⟨_, h1⟩, fun D hD => ?_⟩
      refine lc_tup (K := K) (a := t) (xs := xs) (fun i J => J = upd H D (.lst (((ds.take i).map (wholeD (-1) (z - 1))).map V.bl))) rfl (fun i J _ e => by rw [e]; exact sameT (same_new hD) h1) ?_ ?_
      · rintro i x J hx rfl
        obtain ⟨e, he, xd⟩ := dpAll_get h2 hx
        have hS := same_new (o := .lst (((ds.take i).map (wholeD (-1) (z - 1))).map V.bl)) hD
        refine ⟨rfl, ?_⟩
        unfold tYes
        refine iteT ?_
        refine ⟨_, rfl, 1, rfl, _, rfl, th, _, 0, _, rfl, rfl, sameT hS hth, rfl, _, _, rfl, rfl, x, e, -1, z - 1, rfl, dpSame hS _ _ xd, ?_⟩
        refine ⟨_, upd_same, small1000' (by simp only [List.length_map, List.length_take]; omega), ?_⟩
        rw [upd_upd, List.take_add_one, he]
        simp only [List.map_append, Option.toList_some, List.map_cons, List.map_nil]
      · rintro J rfl
        have s1 := same_new (o := .lst (((ds.take xs.length).map (wholeD (-1) (z - 1))).map V.bl)) hD
        refine ⟨D, (ds.take xs.length).map (wholeD (-1) (z - 1)), rfl, SqL.of upd_same, ?_⟩
        rw [hle, List.take_of_length_le (Nat.le_refl _)] at *
        have ea : (ds.map (wholeD (-1) (z - 1))).all id = ds.all (wholeD (-1) (z - 1)) := by rw [List.all_map]; rfl
        rw [ea]
        exact k _ s1
end

/-! ### nothing stands ahead just if it heads -/
theorem ahead_nil {ns : List Int} {s : Int} {m g : Nat} : (ahead s (headsI ns m g)) = [] ↔ ns.getD m 0 = s := by
  unfold headsI
  rw [List.range_succ_eq_map, List.map_cons]
  by_cases e : ns.getD m 0 = s
  · simp only [ahead, Nat.sub_zero, e]
    simp
  · simp only [ahead, Nat.sub_zero, if_neg e, e]
    simp
theorem ahead_sub {s k : Int} {ns : List Int} {m g : Nat} (gm : g ≤ m) (ml : m < ns.length) (h : k ∈ ahead s (headsI ns m g)) : k ∈ ns := by
  obtain ⟨i, hi, _⟩ := mem_ahead.mp h
  obtain ⟨j, _, hj⟩ := List.mem_map.mp (List.mem_of_getElem? hi)
  rw [← hj, List.getD_eq_getElem?_getD, List.getElem?_eq_getElem (by omega)]
  exact List.getElem_mem _
theorem sorted_nil {out ns : List Int} (h : Sorted out ns) : out = [] ↔ ns = [] := by
  constructor
  · rintro rfl
    cases ns with
    | nil => rfl
    | cons x r => exact absurd ((h.2 x).mpr List.mem_cons_self) List.not_mem_nil
  · rintro rfl
    cases out with
    | nil => rfl
    | cons x r => exact absurd ((h.2 x).mp List.mem_cons_self) List.not_mem_nil

/-! ### what stands ahead are heads -/
theorem heads_in {ns : List Int} {m g : Nat} (ml : m < ns.length) {x : Int} (h : x ∈ headsI ns m g) : x ∈ ns := by
  obtain ⟨j, _, rfl⟩ := List.mem_map.mp h
  rw [List.getD_eq_getElem?_getD, List.getElem?_eq_getElem (by omega)]
  exact List.getElem_mem _
theorem ahead_mem {s k : Int} {l : List Int} (h : k ∈ ahead s l) : k ∈ l := let ⟨_, hi, _⟩ := mem_ahead.mp h; List.mem_of_getElem? hi

/-! ### heads and what stands ahead, when servers are called otherwise -/
theorem heads_map {f : Int → Int} {ns : List Int} {m g : Nat} (ml : m < ns.length) : headsI (ns.map f) m g = (headsI ns m g).map f := by
  unfold headsI
  rw [List.map_map]
  refine List.map_congr_left fun i _ => ?_
  show (ns.map f).getD (m - i) 0 = f (ns.getD (m - i) 0)
  rw [List.getD_eq_getElem?_getD, List.getD_eq_getElem?_getD, List.getElem?_map, List.getElem?_eq_getElem (by omega)]
  rfl
theorem heads_take {ns : List Int} {m g : Nat} : headsI (ns.take (m + 1)) m g = headsI ns m g := by
  unfold headsI
  refine List.map_congr_left fun i _ => ?_
  rw [List.getD_eq_getElem?_getD, List.getD_eq_getElem?_getD, List.getElem?_take_of_lt (by omega)]
theorem ahead_map {f : Int → Int} {s : Int} : ∀ {l : List Int}, (∀ x ∈ l, f x = f s → x = s) → ahead (f s) (l.map f) = (ahead s l).map f
  | [], _ => rfl
  | x :: r, h => by
    have ih := ahead_map (s := s) (l := r) fun y hy => h y (List.mem_cons_of_mem _ hy)
    simp only [List.map_cons, ahead]
    by_cases e : x = s
    · rw [if_pos e, if_pos (by rw [e])]; rfl
    · rw [if_neg e, if_neg fun z => e (h x List.mem_cons_self z), ih, List.map_cons]
theorem ahead_ne {s k : Int} : ∀ {l : List Int}, k ∈ ahead s l → k ≠ s
  | [], h => (List.not_mem_nil h).elim
  | x :: r, h => by
    simp only [ahead] at h
    by_cases e : x = s
    · rw [if_pos e] at h; exact (List.not_mem_nil h).elim
    · rw [if_neg e] at h
      rcases List.mem_cons.mp h with z | z
      · rw [z]; exact e
      · exact ahead_ne z
theorem ahead_append {s k : Int} {t : List Int} : ∀ {l : List Int}, k ∈ ahead s l → k ∈ ahead s (l ++ t)
  | [], h => (List.not_mem_nil h).elim
  | x :: r, h => by
    simp only [ahead, List.cons_append] at h ⊢
    by_cases e : x = s
    · rw [if_pos e] at h; exact (List.not_mem_nil h).elim
    · rw [if_neg e] at h ⊢
      rcases List.mem_cons.mp h with z | z
      · exact List.mem_cons.mpr (.inl z)
      · exact List.mem_cons_of_mem _ (ahead_append z)
theorem heads_more {ns : List Int} {m g : Nat} : ∃ t, headsI ns m (g + 1) = headsI ns m g ++ t := ⟨_, by unfold headsI; rw [List.range_succ, List.map_append]⟩
theorem ahead_more {ns : List Int} {m g : Nat} {s k : Int} (h : k ∈ ahead s (headsI ns m g)) : k ∈ ahead s (headsI ns m (g + 1)) := by
  obtain ⟨t, e⟩ := heads_more (ns := ns) (m := m) (g := g)
  rw [e]
  exact ahead_append h
/-- the server called otherwise -/
def callF (os : List Int) (k : Int) : Int := os.getD k.toNat 0
theorem callF_inj {os : List Int} (nd : os.Nodup) {x y : Int} (x0 : 0 ≤ x) (xl : x < (os.length : Int)) (y0 : 0 ≤ y) (yl : y < (os.length : Int)) (h : callF os x = callF os y) : x = y := by
  unfold callF at h
  have hx : x.toNat < os.length := by omega
  have hy : y.toNat < os.length := by omega
  rw [List.getD_eq_getElem?_getD, List.getD_eq_getElem?_getD, List.getElem?_eq_getElem hx, List.getElem?_eq_getElem hy] at h
  have h' : os[x.toNat] = os[y.toNat] := h
  have q := List.pairwise_iff_getElem.mp nd
  rcases Nat.lt_trichotomy x.toNat y.toNat with z | z | z
  · exact absurd h' (q _ _ hx hy z)
  · omega
  · exact absurd h'.symm (q _ _ hy hx z)
theorem callF_in {os : List Int} {z : Int} (hz : InZ z os) (hl : (os.length : Int) = z) {x : Int} (x0 : 0 ≤ x) (xl : x < z) : 0 ≤ callF os x ∧ callF os x < z := by
  have hx : x.toNat < os.length := by omega
  unfold callF
  rw [List.getD_eq_getElem?_getD, List.getElem?_eq_getElem hx]
  exact hz _ (List.getElem_mem hx)
theorem callF_at {os : List Int} {x : Int} (x0 : 0 ≤ x) (xl : x < (os.length : Int)) : atI (os.map V.int) x = some (.int (callF os x)) := by
  have hx : x.toNat < os.length := by omega
  have e : ((x.toNat : Nat) : Int) = x := Int.toNat_of_nonneg x0
  unfold callF
  rw [List.getD_eq_getElem?_getD, List.getElem?_eq_getElem hx]
  have := int_nat (ns := os) (List.getElem?_eq_getElem hx)
  rw [e] at this
  exact this
theorem le_ne_lt {ys : List Int} (h1 : ys.Pairwise (· ≤ ·)) (h2 : ys.Nodup) : ys.Pairwise (· < ·) := (List.Pairwise.and h1 h2).imp fun ⟨a, b⟩ => by omega
theorem lt_nodup {ys : List Int} (h : ys.Pairwise (· < ·)) : ys.Nodup := h.imp fun a => by omega
theorem sorted_called {f : Int → Int} {out ys l : List Int} (so : Sorted out l) (inj : ∀ x ∈ l, ∀ y ∈ l, f x = f y → x = y) (pm : ys.Perm (out.map f)) (le : ys.Pairwise (· ≤ ·)) : Sorted ys (l.map f) := by
  have nd : (out.map f).Nodup := by
    refine List.pairwise_map.mpr ?_
    have := lt_nodup so.1
    refine List.Pairwise.imp_of_mem (fun {a b} ha hb ne z => ne (inj a ((so.2 a).mp ha) b ((so.2 b).mp hb) z)) this
  refine ⟨le_ne_lt le (pm.nodup_iff.mpr nd), fun k => ?_⟩
  rw [pm.mem_iff, List.mem_map, List.mem_map]
  exact ⟨fun ⟨x, h, e⟩ => ⟨x, (so.2 x).mp h, e⟩, fun ⟨x, h, e⟩ => ⟨x, (so.2 x).mpr h, e⟩⟩
theorem ints_lay1 (ns : List Int) : PyData.canLay0 (.tuple (ns.map PyData.int)) = true := by simp only [PyData.canLay0, ints_lay]
theorem ints_shapedT (ns : List Int) : SeqAt.shaped (.tuple (ns.map PyData.int)) = true := by
  unfold SeqAt.shaped
  simp only [PyData.canLay0, PyData.depth, ints_lay, ints_deep, Bool.true_and, decide_eq_true_eq]
  decide
theorem ints_eqv (ns : List Int) : PyData.eqv (.tuple (ns.map PyData.int)) (.tuple (ns.map PyData.int)) = true := SeqAt.eqv_refl _ (ints_lay1 ns)
theorem ahead_nilT {s : Int} {ns : List Int} {m g : Nat} (ml : m < ns.length) {out : List Int} (so : Sorted out (ahead s (headsI ns m g))) : (out.map PyData.int).isEmpty = decide (V.int ns[m] = V.int s) := by
  rw [dec_int, Bool.eq_iff_iff, List.isEmpty_iff, List.map_eq_nil_iff, sorted_nil so, ahead_nil, List.getD_eq_getElem?_getD, List.getElem?_eq_getElem ml, beq_iff_eq]
  rfl
theorem int_of_at {ns : List Int} {i : Nat} {x : V} (hx : (ns.map V.int)[i]? = some x) : ∃ y, ns[i]? = some y ∧ x = .int y := by
  rw [List.getElem?_map] at hx
  cases e : ns[i]? with
  | none => rw [e] at hx; cases hx
  | some y => rw [e] at hx; cases hx; exact ⟨y, rfl, rfl⟩
theorem gtup {K : PySem.W.Frag} {H J : Hp} {a : Addr} {xs : List V} (g : Grow H J) (h : SqT K H a xs) : SqT K J a xs := by
  rcases h with (h | ⟨o, h⟩) | h
  · exact .inl (.inl (g.at h))
  · exact .inl (.inr ⟨o, g.at h⟩)
  · exact .inr h

/-! ### x not in a tuple of data -/
section
variable {X : Cx}
def rNotInT (K : PySem.W.Frag) : R2 := fun x y H Q => ∃ d ds, Dp K H x d ∧ Dp K H y (.tuple ds) ∧ SeqAt.shaped d = true ∧ SeqAt.shaped (.tuple ds) = true ∧ Q (.bl (!ds.any fun z => PyData.eqv z d)) H
theorem op_notInT (hu : X.A.units + 65 < cLine) : OpR X (compareOp .NotIn) (rNotInT X.K) := by
  intro pins s σ H x y v u Q I rx ry ⟨d, ds, hd, he, sd, se, q⟩
  obtain ⟨as, r1⟩ := Dp.reads I d x v hd rx
  obtain ⟨bs, r2⟩ := Dp.reads I (.tuple ds) y u he ry
  exact SeqAt.notIn_tuple_reads r2 r1 (SeqAt.canLay_of_shaped se) (SeqAt.canLay_of_shaped sd) (room_in_shaped sd hu) ⟨.bl _, H, I, rfl, q⟩
end
/-! ### plays, moment by moment -/
def stepB (z : Int) (row : Row) (named asked : Int) (cs : List Int) (g m : Nat) (last : Bool) : PyData → Int ⊕ Bool
  | .tuple [.int a, .int b] =>
    if -1 ≤ a ∧ a ≤ z - 1 ∧ -1 ≤ b ∧ b ≤ z - 1 then
      match askN z row.1 named asked with
      | none => if a = -1 ∧ b = -1 then .inl b else .inr false
      | some s => if s = cs.getD m 0 then .inr (decide (a = s) && decide (b = -1) && last) else if a = s ∧ b ∈ ahead s (headsI cs m g) then .inl b else .inr false
    else .inr false
  | _ => .inr false
def playB (z : Int) (rs : List Row) (cs : List Int) (g : Nat) : Nat → Nat → Int → Int → List PyData → Bool
  | _, _, _, _, [] => true
  | m, i, named, asked, d :: ds => match rs[i]? with
    | none => false
    | some row => match stepB z row named asked cs g m ds.isEmpty d with
      | .inr b => b
      | .inl nm => playB z rs cs g (m + 1) (nextA z row named asked nm).1.toNat (nextA z row named asked nm).2.1 (nextA z row named asked nm).2.2 ds
theorem stepB_not {z : Int} {row : Row} {named asked : Int} {cs : List Int} {g m : Nat} {last : Bool} {d : PyData} (h : tellB z d = false) : stepB z row named asked cs g m last d = .inr false := by
  unfold stepB
  split
  · rename_i a b
    rw [if_neg]
    rintro ⟨h1, h2, h3, h4⟩
    simp [tellB, wholeD] at h
    omega
  · rfl
theorem dp_two {K : PySem.W.Frag} {H : Hp} {v : V} {x y : Int} (h : Dp K H v (.tuple [.int x, .int y])) : ∃ a, v = .ref a ∧ SqT K H a [.int x, .int y] := by
  cases h with
  | tup h1 h2 =>
    cases h2 with
    | cons a h2 =>
    cases h2 with
    | cons b h2 =>
    cases h2
    cases a
    cases b
    exact ⟨_, rfl, h1⟩
theorem pair_shaped {a b : Int} : SeqAt.shaped (.tuple [.int a, .int b]) = true := ints_shapedT [a, b]
theorem two_eqv {a b c d : Int} : PyData.eqv (.tuple [.int a, .int b]) (.tuple [.int c, .int d]) = (decide (a = c) && decide (b = d)) := by
  simp only [PyData.eqv, PyData.eqvAll, Bool.and_true]
  rw [Bool.eq_iff_iff]
  simp
theorem tellD_shaped (o : Option Int) (out : List Int) : SeqAt.shaped (.tuple (tellD o out)) = true := by
  cases o with
  | none => exact (by decide +kernel : SeqAt.shaped (.tuple [.tuple [.int (-1), .int (-1)]]) = true)
  | some s =>
    have h1 : PyData.canLayAll0 (out.map fun k => PyData.tuple [.int s, .int k]) = true := by
      induction out with
      | nil => simp only [List.map_nil, PyData.canLayAll0]
      | cons x r ih => simp only [List.map_cons, PyData.canLayAll0, PyData.canLay0, ih, Bool.and_self]
    have h2 : PyData.depthAll (out.map fun k => PyData.tuple [.int s, .int k]) ≤ 1 := depthAll_le.mpr fun d hd => by
      obtain ⟨k, _, rfl⟩ := List.mem_map.mp hd
      simp [PyData.depth, PyData.depthAll]
    have h4 : PyData.depth (.tuple (out.map fun k => PyData.tuple [.int s, .int k])) ≤ 64 := by simp only [PyData.depth]; omega
    have h5 : PyData.canLay0 (.tuple (out.map fun k => PyData.tuple [.int s, .int k])) = true := by simp only [PyData.canLay0, h1]
    exact Bool.and_eq_true_iff.mpr ⟨h5, decide_eq_true h4⟩
theorem tellD_any {o : Option Int} {out : List Int} {a b : Int} : ((tellD o out).any fun z => PyData.eqv z (.tuple [.int a, .int b])) = (match o with | none => decide (a = -1 ∧ b = -1) | some s => decide (a = s ∧ b ∈ out)) := by
  cases o with
  | none =>
    simp only [tellD, List.any_cons, List.any_nil, Bool.or_false, two_eqv]
    rw [Bool.eq_iff_iff]
    simp only [Bool.and_eq_true, decide_eq_true_eq]
    constructor <;> (rintro ⟨h1, h2⟩; exact ⟨h1.symm, h2.symm⟩)
  | some s =>
    rw [Bool.eq_iff_iff, List.any_eq_true, decide_eq_true_iff]
    constructor
    · rintro ⟨d, hd, e⟩
      obtain ⟨k, hk, rfl⟩ := List.mem_map.mp hd
      rw [two_eqv, Bool.and_eq_true, decide_eq_true_iff, decide_eq_true_iff] at e
      exact ⟨e.1.symm, e.2 ▸ hk⟩
    · rintro ⟨rfl, h⟩
      exact ⟨_, List.mem_map.mpr ⟨b, h, rfl⟩, by rw [two_eqv, decide_eq_true rfl, decide_eq_true rfl]; rfl⟩
theorem tellD_none {out : List Int} {a b : Int} : ((tellD none out).any fun z => PyData.eqv z (.tuple [.int a, .int b])) = decide (a = -1 ∧ b = -1) := tellD_any
theorem tellD_some {s : Int} {out : List Int} {a b : Int} : ((tellD (some s) out).any fun z => PyData.eqv z (.tuple [.int a, .int b])) = decide (a = s ∧ b ∈ out) := tellD_any
mutual
theorem gdp {K : PySem.W.Frag} {H J : Hp} (g : Grow H J) : ∀ (d : PyData) (v : V), Dp K H v d → Dp K J v d
  | .none, _, h => by cases h; exact .non
  | .bool b, _, h => by cases h; exact .bl b
  | .int i, _, h => by cases h; exact .int i
  | .str x, _, h => by cases h; exact .str x
  | .list ds, _, h => by cases h with | lst hs ha => exact .lst (g.seq hs) (gdpAll g ds _ ha)
  | .tuple ds, _, h => by cases h with | tup hs ha => exact .tup (g.tup hs) (gdpAll g ds _ ha)
  | .dict _, _, h => by cases h
theorem gdpAll {K : PySem.W.Frag} {H J : Hp} (g : Grow H J) : ∀ (ds : List PyData) (vs : List V), DpAll K H vs ds → DpAll K J vs ds
  | [], _, h => by cases h; exact .nil
  | d :: ds, _, h => by cases h with | cons h1 h2 => exact .cons (gdp g d _ h1) (gdpAll g ds _ h2)
end
def sp_isplay (K : PySem.W.Frag) (tb1 tb2 : Addr) : Sp := fun vs H Q _ => ∃ (th tc tt : Addr) (tv : V) (z r : Int) (g : Nat) (rs : List Row) (cs : List Int) (xs : List V) (ds : List PyData), vs = [.ref th, tv, .ref tc, .ref tt] ∧
  SqT K H th [.int z, .int r, .int (g : Int)] ∧ Dp K H tv (tableD rs) ∧ SqT K H tc (cs.map V.int) ∧ SqT K H tt xs ∧ DpAll K H xs ds ∧ cs.length = g + ds.length ∧ g < 50 ∧ cs.length ≤ 4000 ∧ (∀ row ∈ rs, RowOf (rs.length : Int) row) ∧ 0 < rs.length ∧ 2 ≤ z ∧ z ≤ 4 ∧ InZ z cs ∧ GxR.TabG H tb1 ∧ GxR.TabG H tb2 ∧
  ∀ J, Grow H J → Q (.bl (playB z rs cs g g 0 0 (-1) ds)) J
section
variable {P : Program} {w : World} {K : PySem.W.Frag} {mg : Str → Option Value} {base : Heap}
theorem ok_isplay (T : Txt K mg) (TB1 : GxR.TabB base mg T.c_heads_back T.p_heads_back) (TB2 : GxR.TabB base mg T.c_tellings T.p_tellings) : FnOk P w K mg base CX0 3 T.a_is_play T.d_is_play ["house", "table", "course", "told"] (sp_isplay K T.p_heads_back T.p_tellings) := by
  have G_is_telling : FnOk P w K mg base CX0 2 T.a_is_telling T.d_is_telling ["house", "value"] (sp_istelling K) := ok_istelling T
  have G_asks : FnOk P w K mg base CX0 1 T.a_asks T.d_asks ["house", "table", "asker"] (sp_asks K) := ok_asks T
  have G_behind : FnOk P w K mg base CX0 2 T.a_behind T.d_behind ["house", "table", "asker", "name"] (sp_behind K) := ok_behind T
  have G_heads_back : FnOk P w K mg base CX0 2 T.a_heads_back T.d_heads_back ["house", "course", "moment"] (sp_heads K T.p_heads_back) := ok_heads T TB1
  have G_tellings : FnOk P w K mg base CX0 2 T.a_tellings T.d_tellings ["heads", "server"] (sp_tellings K T.p_tellings) := ok_tellings T TB2
  refine T.F_is_play.ok sc_is_play (fun vs H Q E h => ?_) (fun cdv A outer s H vs Q E hr h => ?_)
  · obtain ⟨th, tc, tt, tv, z, r, g, rs, cs, xs, ds, rfl, _⟩ := h
    rfl
  · obtain ⟨th, tc, tt, tv, z, r, g, rs, cs, xs, ds, rfl, hth, htv, htc, htt, hal, hln, g50, hl, hrs, r0, z2, z4, inC, hT1, hT2, k⟩ := h
    refine ⟨_, (pss_cons (ps_set (i := 4) sc_is_play.nd rfl (Or.inl rfl) (pe_ix ix_tup (pv 0) pe_int (fun _ _ => rfl)))
      (pss_cons (ps_set (i := 5) sc_is_play.nd rfl (Or.inl rfl) (pe_glob (v := .ref T.a_NEW_ASKER) rfl T.g_NEW_ASKER rfl))
      (pss_cons (ps_for PassesOwn.never rfl (pi_enumTS (by rfl) T.m_enumerate (pa_cons (pv 3) pa_nil) (pk_cons (pv 4) pk_nil)) (pg_tup (by rfl) (pgs_cons (pg_name (i := 6) sc_is_play.nd rfl (Or.inl rfl)) (pgs_cons (pg_name (i := 7) sc_is_play.nd rfl (Or.inl rfl)) pgs_nil)))
        (pss_cons (ps_if (pt_not (pt_val (pe_call G_is_telling (hr.mono (by omega)) (by rfl) T.g_is_telling T.F_is_telling.kp T.b_is_telling .nil pass0 (pa_cons (pv 0) (pa_cons (pv 7) pa_nil)))))
        (pss_one (ps_ret pe_bl))
        pss_nil)
      (pss_cons (ps_set (i := 8) sc_is_play.nd rfl (Or.inl rfl) (pe_call G_asks (hr.mono (by omega)) (by rfl) T.g_asks T.F_asks.kp T.b_asks .nil pass0 (pa_cons (pv 0) (pa_cons (pv 1) (pa_cons (pv 5) pa_nil)))))
      (pss_cons (ps_if (pt_cmpR op_eq (pv 8) (pe_ix ix_tup (pv 2) (pv 6) (fun _ _ => rfl)) (nomark _))
        (pss_one (ps_ret (pe_and (pe_cmpR (op_eqD hr.units) (pv 7) (pe_tup (pa_cons (pv 8) (pa_cons (pe_un un_neg pe_int) pa_nil))) (nomark _)) (pe_one (pe_cmpR op_eq (pv 6) (pe_op op_sub (pe_callB (id := "len") call_len_seq (by rfl) T.m_len (by decide +kernel) (pa_cons (pv 2) pa_nil)) pe_int) (nomark _))))))
        pss_nil)
      (pss_cons (ps_if (pt_cmpR (op_notInT (hu65 hr)) (pv 7) (pe_call G_tellings (hr.mono (by omega)) (by rfl) T.g_tellings T.F_tellings.kp T.b_tellings .nil pass0 (pa_cons (pe_call G_heads_back (hr.mono (by omega)) (by rfl) T.g_heads_back T.F_heads_back.kp T.b_heads_back .nil pass0 (pa_cons (pv 0) (pa_cons (pv 2) (pa_cons (pv 6) pa_nil)))) (pa_cons (pv 8) pa_nil))) (by rfl))
        (pss_one (ps_ret pe_bl))
        pss_nil)
      (pss_one (ps_set (i := 5) sc_is_play.nd rfl (Or.inl rfl) (pe_call G_behind (hr.mono (by omega)) (by rfl) T.g_behind T.F_behind.kp T.b_behind .nil pass0 (pa_cons (pv 0) (pa_cons (pv 1) (pa_cons (pv 5) (pa_cons (pe_ix ix_tup (pv 7) pe_int (fun _ _ => rfl)) pa_nil))))))))))))
      (pss_one (ps_ret pe_bl))))), ?_⟩
    obtain ⟨ta, txs, rfl, _, _, _⟩ := dp_table htv
    have dH : ∀ J, Grow H J → Dp K J (.ref th) (houseT z r (g : Int)) := fun J R => .tup (R.tup hth) (.cons (.int z) (.cons (.int r) (.cons (.int (g : Int)) .nil)))
    have ll : (cs.map V.int).length = cs.length := List.length_map ..
    have xl := dpAll_len hal
    refine ⟨_, rfl, th, _, 2, _, rfl, rfl, hth, rfl, ?_⟩
    refine ⟨_, rfl, _, rfl, tt, xs, (g : Int), rfl, rfl, by omega, by omega, htt, ?_⟩
    have qn : SqT K H T.a_NEW_ASKER [.int ((0 : Nat) : Int), .int 0, .int (-1)] := sq_any T.q_NEW_ASKER
    refine for_it (walk_enumT (K := K) (a := tt) (xs := xs) (c := (g : Int))) (fun i σ J => ∃ (y6 y7 y8 : Option V) (t : Addr) (ii : Nat) (named asked : Int), σ = [some (.ref th), some (.ref ta), some (.ref tc), some (.ref tt), some (.int (g : Int)), some (.ref t), y6, y7, y8] ∧ SqT K J t [.int (ii : Int), .int named, .int asked] ∧ ii < rs.length ∧ 0 ≤ named ∧ named < z ∧ -1 ≤ asked ∧ asked < z ∧ Grow H J ∧
      playB z rs cs g g 0 0 (-1) ds = playB z rs cs g (g + i) ii named asked (ds.drop i)) ⟨none, none, none, T.a_NEW_ASKER, 0, 0, -1, rfl, qn, r0, by omega, by omega, by omega, by omega, Grow.refl H, rfl⟩ (fun i σ J _ h => ?_) ?_ ?_
    · obtain ⟨_, _, _, _, _, _, _, _, _, _, _, _, _, _, R, _⟩ := h
      exact R.tup htt
    · rintro i v σ J J' hi ⟨y6, y7, y8, t, ii, named, asked, rfl, hq, hii, nm0, nm1, as0, as1, R, eP⟩ ⟨Tp, x1, x2, rfl, hTn, rfl, e1, hx⟩
      cases e1
      obtain ⟨d, hd, xd⟩ := dpAll_get hal hx
      have R1 : Grow H (upd J Tp (.tup [.int ((g : Int) + (i : Int)), x2])) := R.trans (Grow.new hTn)
      have hTp : upd J Tp (.tup [.int ((g : Int) + (i : Int)), x2]) Tp = some (.tup [.int ((g : Int) + (i : Int)), x2]) := upd_same
      have hq1 := (Grow.new (o := .tup [.int ((g : Int) + (i : Int)), x2]) hTn).tup hq
      generalize upd J Tp (.tup [.int ((g : Int) + (i : Int)), x2]) = J1 at *
      have lt : i < ds.length := (List.getElem?_eq_some_iff.mp hd).1
      have dr : ds.drop i = d :: ds.drop (i + 1) := by
        rw [← List.getElem_cons_drop lt]
        exact congrArg (· :: _) (List.getElem?_eq_some_iff.mp hd).2
      obtain ⟨row, hrow⟩ : ∃ row, rs[ii]? = some row := ⟨_, List.getElem?_eq_getElem hii⟩
      have rowOf := hrs row (List.mem_of_getElem? hrow)
      have ePl : playB z rs cs g g 0 0 (-1) ds = match stepB z row named asked cs g (g + i) (ds.drop (i + 1)).isEmpty d with
          | .inr b => b
          | .inl nm => playB z rs cs g (g + (i + 1)) (nextA z row named asked nm).1.toNat (nextA z row named asked nm).2.1 (nextA z row named asked nm).2.2 (ds.drop (i + 1)) := by
        rw [eP, dr]
        simp only [playB, hrow]
        rfl
      refine ⟨Tp, _, rfl, SqT.of hTp, rfl, _, _, rfl, _, _, rfl, rfl, ?_⟩
      refine ⟨_, rfl, _, rfl, th, x2, z, r, (g : Int), d, rfl, R1.tup hth, gdp R1 d x2 xd, fun J2 S2 => ⟨_, rfl, ?_⟩⟩
      have R2 := R1.trans (Grow.of_same S2)
      cases hB : tellB z d with
      | false =>
        rw [ePl, stepB_not hB] at k
        exact iteT (k J2 R2)
      | true =>
      obtain ⟨a, b, rfl, a1, a2, b1, b2⟩ := tellB_pair hB
      refine iteF ?_
      have hq2 := sameT S2 hq1
      have dA : ∀ L, Grow J2 L → Dp K L (.ref t) (askerD ((ii : Int), named, asked)) := fun L G => .tup (G.tup hq2) (.cons (.int _) (.cons (.int _) (.cons (.int _) .nil)))
      refine ⟨_, rfl, _, rfl, _, rfl, .ref th, .ref ta, .ref t, z, r, (g : Int), rs, ii, named, asked, row, rfl, dH _ R2, gdp R2 _ _ htv, dA _ (Grow.refl _), hrow, by omega, ?_⟩
      have em : (g : Int) + (i : Int) = ((g + i : Nat) : Int) := by omega
      have mlt : g + i < cs.length := by omega
      have cat : atI (cs.map V.int) ((g : Int) + (i : Int)) = some (.int cs[g + i]) := by rw [em]; exact int_nat (List.getElem?_eq_getElem mlt)
      have cgd : cs.getD (g + i) 0 = cs[g + i] := by rw [List.getD_eq_getElem?_getD, List.getElem?_eq_getElem mlt]; rfl
      have hl60 : (headsI cs (g + i) g).length < 60 := by unfold headsI; rw [List.length_map, List.length_range]; omega
      have small := ask_small (x := row.1) (asked := asked) (show 0 < z by omega) nm0 nm1
      have on : ∀ (nm : Int) (J4 : Hp) (G4 : Grow J2 J4) (q : Addr) (hq' : J4 q = none), 0 ≤ named → (askN z row.1 named asked = none ∨ (0 ≤ nm ∧ nm < z)) →
          SqT K (upd J4 q (.tup [.int (nextA z row named asked nm).1, .int (nextA z row named asked nm).2.1, .int (nextA z row named asked nm).2.2])) q [.int (((nextA z row named asked nm).1.toNat : Nat) : Int), .int (nextA z row named asked nm).2.1, .int (nextA z row named asked nm).2.2] ∧
          (nextA z row named asked nm).1.toNat < rs.length ∧ 0 ≤ (nextA z row named asked nm).2.1 ∧ (nextA z row named asked nm).2.1 < z ∧ -1 ≤ (nextA z row named asked nm).2.2 ∧ (nextA z row named asked nm).2.2 < z ∧
          Grow H (upd J4 q (.tup [.int (nextA z row named asked nm).1, .int (nextA z row named asked nm).2.1, .int (nextA z row named asked nm).2.2])) := fun nm J4 G4 q hq' _ hnm => by
        obtain ⟨⟨u0, u1⟩, ⟨u2, u3⟩, u4, u5⟩ : (0 ≤ (nextA z row named asked nm).1 ∧ (nextA z row named asked nm).1 < (rs.length : Int)) ∧ (0 ≤ (nextA z row named asked nm).2.1 ∧ (nextA z row named asked nm).2.1 < z) ∧ -1 ≤ (nextA z row named asked nm).2.2 ∧ (nextA z row named asked nm).2.2 < z := by
          rcases hnm with h | h
          · obtain ⟨_, w0, w1, _, _⟩ := rowOf
            have e : nextA z row named asked nm = (row.2.1, named, asked) := by unfold nextA; rw [h]
            rw [e]
            exact ⟨⟨w0, w1⟩, ⟨nm0, nm1⟩, as0, as1⟩
          · exact next_in rowOf (show 0 < z by omega) nm0 nm1 as0 as1 h.1 h.2
        refine ⟨?_, by omega, u2, u3, u4, u5, (R2.trans G4).trans (Grow.new hq')⟩
        rw [Int.toNat_of_nonneg u0]
        exact SqT.of upd_same
      cases eA : askN z row.1 named asked with
      | none =>
        rw [show optV none = V.non from rfl]
        refine ⟨_, rfl, _, rfl, _, rfl, tc, _, _, _, rfl, rfl, R2.tup htc, cat, rfl, _, rfl, iteF ?_⟩
        refine ⟨_, rfl, _, rfl, _, rfl, _, rfl, th, tc, z, r, g, g + i, cs, rfl, R2.tup hth, R2.tup htc, by omega, mlt, hl, R2.t.tab hT1, fun u1 J3 G3 h3 => ?_⟩
        refine ⟨_, rfl, u1, none, headsI cs (g + i) g, rfl, SqT.of h3, hl60, (R2.trans G3).t.tab hT2, fun out t4 us4 J4 so lo G4 h4 hd4 => ?_⟩
        have G34 := G3.trans G4
        refine ⟨.tuple [.int a, .int b], tellD none out, gdp (R2.trans G34) _ _ xd, .tup h4 hd4, pair_shaped, tellD_shaped _ _, ?_⟩
        rw [tellD_none]
        have eS : stepB z row named asked cs g (g + i) (ds.drop (i + 1)).isEmpty (.tuple [.int a, .int b]) = if a = -1 ∧ b = -1 then .inl b else .inr false := by
          simp only [stepB, eA]
          rw [if_pos ⟨a1, a2, b1, b2⟩]
        by_cases hab : a = -1 ∧ b = -1
        · rw [if_pos hab] at eS
          rw [eS] at ePl
          rw [decide_eq_true hab]
          refine ⟨_, rfl, iteF ?_⟩
          obtain ⟨ap, eap, sap⟩ := dp_two (gdp (R2.trans G34) _ _ xd)
          cases eap
          refine ⟨_, rfl, _, rfl, _, rfl, _, rfl, ap, _, 1, _, rfl, rfl, sap, rfl, .ref th, .ref ta, .ref t, z, r, (g : Int), rs, ii, named, asked, b, row, rfl, dH _ (R2.trans G34), gdp (R2.trans G34) _ _ htv, dA _ G34, hrow, by omega, fun q hq' => ?_⟩
          obtain ⟨o1, o2, o3, o4, o5, o6, o7⟩ := on b J4 G34 q hq' nm0 (.inl eA)
          exact ⟨_, _, _, q, _, _, _, rfl, o1, o2, o3, o4, o5, o6, o7, ePl⟩
        · rw [if_neg hab] at eS
          rw [ePl, eS] at k
          rw [decide_eq_false hab]
          exact ⟨_, rfl, iteT (k _ (R2.trans G34))⟩
      | some sv =>
        obtain ⟨s0, sz⟩ := small sv eA
        rw [show optV (some sv) = V.int sv from rfl]
        refine ⟨_, rfl, _, rfl, _, rfl, tc, _, _, _, rfl, rfl, R2.tup htc, cat, rfl, _, rfl, ?_⟩
        by_cases hs : sv = cs[g + i]
        · rw [decide_eq_true (by rw [hs])]
          have eS : stepB z row named asked cs g (g + i) (ds.drop (i + 1)).isEmpty (.tuple [.int a, .int b]) = .inr (decide (a = sv) && decide (b = -1) && (ds.drop (i + 1)).isEmpty) := by
            simp only [stepB, eA, cgd]
            rw [if_pos ⟨a1, a2, b1, b2⟩, if_pos hs]
          rw [ePl, eS] at k
          refine iteT ?_
          have e2 : (V.bl (decide (a = sv) && decide (b = -1) && (ds.drop (i + 1)).isEmpty)) = V.bl ((decide (a = sv) && decide (b = -1)) && decide ((g : Int) + (i : Int) = (cs.length : Int) - 1)) := by
            congr 2
            rw [Bool.eq_iff_iff, List.isEmpty_iff, decide_eq_true_iff, List.drop_eq_nil_iff]
            omega
          rw [e2] at k
          refine ⟨_, rfl, _, rfl, 1, rfl, by show 2 ≤ sizeLine; decide, fun q hq' => ?_⟩
          have R3 := R2.trans (Grow.new (o := .tup [.int sv, .int (-1)]) hq')
          refine ⟨.tuple [.int a, .int b], .tuple [.int sv, .int (-1)], gdp R3 _ _ xd, .tup (SqT.of upd_same) (.cons (.int _) (.cons (.int _) .nil)), pair_shaped, pair_shaped, ?_⟩
          rw [two_eqv]
          refine ⟨_, rfl, ?_⟩
          cases hc : (decide (a = sv) && decide (b = -1)) with
          | false =>
            rw [hc, Bool.false_and] at k
            exact iteF (k _ R3)
          | true =>
            rw [hc, Bool.true_and] at k
            refine iteT ⟨_, rfl, _, rfl, tc, _, rfl, .inr (R3.tup htc), _, _, rfl, rfl, rfl, ?_⟩
            rw [ll]
            simp only [V.int.injEq]
            exact k _ R3
        · rw [decide_eq_false fun e => hs (V.int.inj e)]
          refine iteF ?_
          refine ⟨_, rfl, _, rfl, _, rfl, _, rfl, th, tc, z, r, g, g + i, cs, rfl, R2.tup hth, R2.tup htc, by omega, mlt, hl, R2.t.tab hT1, fun u1 J3 G3 h3 => ?_⟩
          refine ⟨_, rfl, u1, some sv, headsI cs (g + i) g, rfl, SqT.of h3, hl60, (R2.trans G3).t.tab hT2, fun out t4 us4 J4 so lo G4 h4 hd4 => ?_⟩
          have G34 := G3.trans G4
          have so' := so sv rfl
          refine ⟨.tuple [.int a, .int b], tellD (some sv) out, gdp (R2.trans G34) _ _ xd, .tup h4 hd4, pair_shaped, tellD_shaped _ _, ?_⟩
          rw [tellD_some]
          have eS : stepB z row named asked cs g (g + i) (ds.drop (i + 1)).isEmpty (.tuple [.int a, .int b]) = if a = sv ∧ b ∈ ahead sv (headsI cs (g + i) g) then .inl b else .inr false := by
            simp only [stepB, eA, cgd]
            rw [if_pos ⟨a1, a2, b1, b2⟩, if_neg hs]
          by_cases hab : a = sv ∧ b ∈ ahead sv (headsI cs (g + i) g)
          · rw [if_pos hab] at eS
            rw [eS] at ePl
            have hab' : a = sv ∧ b ∈ out := ⟨hab.1, (so'.2 b).mpr hab.2⟩
            rw [decide_eq_true hab']
            refine ⟨_, rfl, iteF ?_⟩
            obtain ⟨ap, eap, sap⟩ := dp_two (gdp (R2.trans G34) _ _ xd)
            cases eap
            refine ⟨_, rfl, _, rfl, _, rfl, _, rfl, ap, _, 1, _, rfl, rfl, sap, rfl, .ref th, .ref ta, .ref t, z, r, (g : Int), rs, ii, named, asked, b, row, rfl, dH _ (R2.trans G34), gdp (R2.trans G34) _ _ htv, dA _ G34, hrow, by omega, fun q hq' => ?_⟩
            obtain ⟨o1, o2, o3, o4, o5, o6, o7⟩ := on b J4 G34 q hq' nm0 (.inr (inC b (heads_in mlt (ahead_mem hab.2))))
            exact ⟨_, _, _, q, _, _, _, rfl, o1, o2, o3, o4, o5, o6, o7, ePl⟩
          · rw [if_neg hab] at eS
            rw [ePl, eS] at k
            have hab' : ¬ (a = sv ∧ b ∈ out) := fun h => hab ⟨h.1, (so'.2 b).mp h.2⟩
            rw [decide_eq_false hab']
            exact ⟨_, rfl, iteT (k _ (R2.trans G34))⟩
    · rintro σ J ⟨y6, y7, y8, t, ii, named, asked, rfl, hq, hii, nm0, nm1, as0, as1, R, eP⟩
      rw [eP, List.drop_of_length_le (by omega)] at k
      exact k J R
end

/-! ### what is a story: the program's word -/
def storyD (z r : Int) (g : Nat) (rs : List Row) : PyData → Bool
  | .tuple [c, t] => courseD z r c && (match c, t with
    | .tuple cd, .tuple td => decide (0 < td.length ∧ cd.length = g + td.length) && playB z rs (cd.map intD) g g 0 0 (-1) td
    | _, _ => false)
  | _ => false
theorem tupD_two {d : PyData} (h : tupD 2 d = true) : ∃ a b, d = .tuple [a, b] := by
  cases d with
  | tuple ds =>
    match ds with
    | [] => exact absurd h (by simp [tupD])
    | [_] => exact absurd h (by simp [tupD])
    | [a, b] => exact ⟨a, b, rfl⟩
    | _ :: _ :: _ :: r => exact absurd h (by simp [tupD]; omega)
  | _ => exact absurd h (by simp [tupD])
theorem storyD_short {z r : Int} {g : Nat} {rs : List Row} {d : PyData} (h : tupD 2 d = false) : storyD z r g rs d = false := by
  cases d with
  | tuple ds =>
    match ds with
    | [] => rfl
    | [_] => rfl
    | [_, _] => exact absurd h (by simp [tupD])
    | _ :: _ :: _ :: _ => rfl
  | _ => rfl
theorem courseD_tup {z r : Int} {c : PyData} (h : courseD z r c = true) : ∃ cd, c = .tuple cd ∧ cd.all (wholeD 0 (z - 1)) = true := by
  cases c with
  | tuple cd =>
    simp only [courseD, Bool.and_eq_true] at h
    exact ⟨cd, rfl, h.1.2⟩
  | _ => cases h
theorem whole_inZ {z : Int} {cd : List PyData} (h : cd.all (wholeD 0 (z - 1)) = true) : InZ z (cd.map intD) := fun x hx => by
  obtain ⟨d, hd, rfl⟩ := List.mem_map.mp hx
  obtain ⟨i, rfl, h0, h1⟩ := whole_int (List.all_eq_true.mp h d hd)
  exact ⟨h0, by show i < z; omega⟩
def sp_isstory (K : PySem.W.Frag) (tb1 tb2 tb3 : Addr) : Sp := fun vs H Q _ => ∃ (th : Addr) (tv v : V) (z r : Int) (g : Nat) (rs : List Row) (d : PyData), vs = [.ref th, tv, v] ∧ SqT K H th [.int z, .int r, .int (g : Int)] ∧ Dp K H tv (tableD rs) ∧ Dp K H v d ∧ wt d ≤ 20000 ∧ (∀ c t, d = .tuple [c, t] → ∀ cs, c = .tuple cs → cs.length ≤ 4000) ∧
  g < 50 ∧ (∀ row ∈ rs, RowOf (rs.length : Int) row) ∧ 0 < rs.length ∧ 2 ≤ z ∧ z ≤ 4 ∧ GxR.TabG H tb1 ∧ GxR.TabG H tb2 ∧ GxR.TabG H tb3 ∧ ∀ J, Grow H J → Q (.bl (storyD z r g rs d)) J
section
variable {P : Program} {w : World} {K : PySem.W.Frag} {mg : Str → Option Value} {base : Heap}
theorem ok_isstory (T : Txt K mg) (TB1 : GxR.TabB base mg T.c_heads_back T.p_heads_back) (TB2 : GxR.TabB base mg T.c_tellings T.p_tellings) (TB3 : GxR.TabB base mg T.c_changes_of T.p_changes_of) : FnOk P w K mg base CX0 4 T.a_is_story T.d_is_story ["house", "table", "value"] (sp_isstory K T.p_heads_back T.p_tellings T.p_changes_of) := by
  have G_tuple_of : FnOk P w K mg base CX0 1 T.a_tuple_of T.d_tuple_of ["value", "many"] (sp_tupleof K) := ok_tupleof T
  have G_is_course : FnOk P w K mg base CX0 3 T.a_is_course T.d_is_course ["house", "value"] (sp_iscourse K T.p_changes_of) := ok_iscourse T TB3
  have G_is_play : FnOk P w K mg base CX0 3 T.a_is_play T.d_is_play ["house", "table", "course", "told"] (sp_isplay K T.p_heads_back T.p_tellings) := ok_isplay T TB1 TB2
  refine T.F_is_story.ok sc_is_story (fun vs H Q E h => ?_) (fun cdv A outer s H vs Q E hr h => ?_)
  · obtain ⟨th, tv, v, z, r, g, rs, d, rfl, _⟩ := h
    rfl
  · obtain ⟨th, tv, v, z, r, g, rs, d, rfl, hth, htv, hd, hw, hc4, g50, hrs, r0, z2, z4, hT1, hT2, hT3, k⟩ := h
    refine ⟨_, (pss_cons (ps_if (pt_not (pt_val (pe_call G_tuple_of (hr.mono (by omega)) (by rfl) T.g_tuple_of T.F_tuple_of.kp T.b_tuple_of .nil pass0 (pa_cons (pv 2) (pa_cons pe_int pa_nil)))))
        (pss_one (ps_ret pe_bl))
        pss_nil)
      (pss_cons (ps_asg (pv 2) (pg_tup (by rfl) (pgs_cons (pg_name (i := 3) sc_is_story.nd rfl (Or.inl rfl)) (pgs_cons (pg_name (i := 4) sc_is_story.nd rfl (Or.inl rfl)) pgs_nil))))
      (pss_cons (ps_if (PW.pt (pw_or (pt_not (pt_val (pe_call G_is_course (hr.mono (by omega)) (by rfl) T.g_is_course T.F_is_course.kp T.b_is_course .nil pass0 (pa_cons (pv 0) (pa_cons (pv 3) pa_nil))))) (pw_or1 (pt_not (pt_val (pe_callB (id := "isinstance") (call_isD "tuple" (by decide)) (by rfl) T.m_isinstance (by decide +kernel) (pa_cons (pv 4) (pa_cons (pe_bltn (v := .ty "tuple") (by rfl) T.m_tuple (by decide +kernel) rfl) pa_nil))))))))
        (pss_one (ps_ret pe_bl))
        pss_nil)
      (pss_cons (ps_if (PW.pt (pw_or (pt_cmpR op_eq (pe_callB (id := "len") call_len_seq (by rfl) T.m_len (by decide +kernel) (pa_cons (pv 4) pa_nil)) pe_int (nomark _)) (pw_or1 (pt_cmpR op_ne (pe_callB (id := "len") call_len_seq (by rfl) T.m_len (by decide +kernel) (pa_cons (pv 4) pa_nil)) (pe_op op_sub (pe_callB (id := "len") call_len_seq (by rfl) T.m_len (by decide +kernel) (pa_cons (pv 3) pa_nil)) (pe_ix ix_tup (pv 0) pe_int (fun _ _ => rfl))) (nomark _)))))
        (pss_one (ps_ret pe_bl))
        pss_nil)
      (pss_one (ps_ret (pe_call G_is_play (hr.mono (by omega)) (by rfl) T.g_is_play T.F_is_play.kp T.b_is_play .nil pass0 (pa_cons (pv 0) (pa_cons (pv 1) (pa_cons (pv 3) (pa_cons (pv 4) pa_nil))))))))))), ?_⟩
    refine ⟨_, rfl, v, d, 2, rfl, hd, _, rfl, ?_⟩
    cases h2 : tupD 2 d with
    | false =>
      rw [storyD_short h2] at k
      exact iteT (k H (Grow.refl H))
    | true =>
    obtain ⟨c, t, rfl⟩ := tupD_two h2
    cases hd with
    | tup h1 hd2 =>
    cases hd2 with
    | cons hcd hd2 =>
    cases hd2 with
    | cons htd hd2 =>
    cases hd2
    refine iteF ⟨_, rfl, _, _, rfl, h1, rfl, _, _, rfl, _, _, rfl, rfl, ?_⟩
    refine ⟨_, rfl, _, rfl, th, _, z, r, (g : Int), c, rfl, hth, hcd, fun ds e => hc4 c t rfl ds e, hT3, fun J1 R1 => ⟨_, rfl, ?_⟩⟩
    cases hC : courseD z r c with
    | false =>
      have e : storyD z r g rs (.tuple [c, t]) = false := by simp only [storyD, hC, Bool.false_and]
      rw [e] at k
      exact iteT (iteT (k J1 R1))
    | true =>
    obtain ⟨cd, rfl, hall⟩ := courseD_tup hC
    refine iteF ⟨_, rfl, _, t, rfl, gdp R1 _ _ htd, _, rfl, ?_⟩
    cases hT : isA "tuple" t with
    | false =>
      have e : storyD z r g rs (.tuple [.tuple cd, t]) = false := by
        simp only [storyD, hC, Bool.true_and]
        cases t <;> first | rfl | (exfalso; revert hT; simp [isA, isS, kindD])
      rw [e] at k
      exact iteT (k J1 R1)
    | true =>
    obtain ⟨td, rfl⟩ := isA_tup hT
    have eS : storyD z r g rs (.tuple [.tuple cd, .tuple td]) = (decide (0 < td.length ∧ cd.length = g + td.length) && playB z rs (cd.map intD) g g 0 0 (-1) td) := by simp only [storyD, hC, Bool.true_and]
    rw [eS] at k
    have ld := hc4 (.tuple cd) (.tuple td) rfl cd rfl
    cases htd with
    | tup g1 g2 =>
    rename_i tt xt
    cases hcd with
    | tup c1 c2 =>
    rename_i tc xc
    have ex := all_whole c2 hall
    have inC := whole_inZ hall
    have lm : (cd.map intD).length = cd.length := List.length_map ..
    have lt := dpAll_len g2
    have lc := dpAll_len c2
    refine iteF ⟨_, rfl, tt, xt, rfl, .inr (R1.tup g1), rfl, _, rfl, ?_⟩
    by_cases t0 : td.length = 0
    · have e : decide (0 < td.length ∧ cd.length = g + td.length) = false := decide_eq_false (by omega)
      rw [e, Bool.false_and] at k
      rw [decide_eq_true (show V.int (xt.length : Int) = V.int 0 by rw [lt, t0]; rfl)]
      exact iteT (iteT (k J1 R1))
    · rw [decide_eq_false (show ¬ V.int (xt.length : Int) = V.int 0 by intro q; have := V.int.inj q; omega)]
      refine iteF ⟨_, rfl, tt, xt, rfl, .inr (R1.tup g1), _, rfl, tc, xc, rfl, .inr (R1.tup c1), _, rfl, th, _, 2, _, rfl, rfl, R1.tup hth, rfl, _, _, rfl, rfl, rfl, _, rfl, ?_⟩
      by_cases hl : cd.length = g + td.length
      · rw [show (!decide (V.int (xt.length : Int) = V.int ((xc.length : Int) - (g : Int)))) = false by simp only [V.int.injEq, Bool.not_eq_false', decide_eq_true_eq]; omega]
        have e : decide (0 < td.length ∧ cd.length = g + td.length) = true := decide_eq_true ⟨by omega, hl⟩
        rw [e, Bool.true_and] at k
        refine iteF ?_
        have hx : SqT K J1 tc ((cd.map intD).map V.int) := by rw [← ex]; exact R1.tup c1
        obtain ⟨ta, txs, rfl, _⟩ := dp_table htv
        refine ⟨_, rfl, _, rfl, _, rfl, _, rfl, th, tc, tt, .ref ta, z, r, g, rs, cd.map intD, xt, td, rfl, R1.tup hth, gdp R1 _ _ htv, hx, R1.tup g1, gdpAll R1 _ _ g2, by omega, g50, by omega, hrs, r0, z2, z4, inC, R1.t.tab hT1, R1.t.tab hT2, fun J2 R2 => ?_⟩
        exact k J2 (R1.trans R2)
      · rw [show (!decide (V.int (xt.length : Int) = V.int ((xc.length : Int) - (g : Int)))) = true by simp only [V.int.injEq, Bool.not_eq_true', decide_eq_false_iff_not]; omega]
        have e : decide (0 < td.length ∧ cd.length = g + td.length) = false := decide_eq_false (by omega)
        rw [e, Bool.false_and] at k
        exact iteT (k J1 R1)
end

/-! ### the law's own word on who may be named, moment by moment back -/
theorem heads_get {ns : List Int} {m g k : Nat} (kg : k ≤ g) : (headsI ns m g)[k]? = some (ns.getD (m - k) 0) := by
  unfold headsI
  rw [List.getElem?_map, List.getElem?_range (by omega)]
  rfl
theorem heads_len {ns : List Int} {m g : Nat} : (headsI ns m g).length = g + 1 := by unfold headsI; rw [List.length_map, List.length_range]
def sp_lnames (K : PySem.W.Frag) : Sp := fun vs H Q _ => ∃ (th a : Addr) (z r s : Int) (g m : Nat) (ns : List Int), vs = [.ref th, .ref a, .int (m : Int), .int s] ∧ SqT K H th [.int z, .int r, .int (g : Int)] ∧ SqT K H a (ns.map V.int) ∧ g ≤ m ∧ m < ns.length ∧ ns.length ≤ 4000 ∧ g < 50 ∧
  ∀ (out : List Int) (t : Addr) (J : Hp), Sorted out (ahead s (headsI ns m g)) → out.length < 60 → Same H J → J t = some (.tup (out.map V.int)) → Q (.ref t) J
section
variable {P : Program} {w : World} {K : PySem.W.Frag} {mg : Str → Option Value} {base : Heap}
theorem ok_lnames (T : Txt K mg) : FnOk P w K mg base CX0 1 T.a_names T.d_names ["_law_house_here", "_law_course_here", "_law_moment", "_law_server"] (sp_lnames K) := by
  refine T.F_names.ok sc_names (fun vs H Q E h => ?_) (fun cdv A outer st H vs Q E hr h => ?_)
  · obtain ⟨th, a, z, r, s, g, m, ns, rfl, _⟩ := h
    rfl
  · obtain ⟨th, a, z, r, s, g, m, ns, rfl, hth, hx, gm, ml, hl, g50, k⟩ := h
    refine ⟨_, (pss_cons (ps_par (i := 4) (j := 5) (by rfl) sc_names.nd rfl rfl (by decide) rfl rfl (pa_cons (pe_lst pa_nil) (pa_cons (pv 2) pa_nil)) (by rfl))
      (pss_cons (ps_while PassesOwn.never (PW.pt (pw_and (pt_cmpR op_ge (pv 5) (pe_op op_sub (pv 2) (pe_ix ix_tup (pv 0) pe_int (fun _ _ => rfl))) (nomark _)) (pw_and1 (pt_cmpR op_ne (pe_ix ix_tup (pv 1) (pv 5) (fun _ _ => rfl)) (pv 3) (nomark _)))))
        (pss_cons (ps_expr (pe_bm PySem.F.plainAttrs_list PySem.F.slot_list_append PySem.F.type_list_append mt_append (pv 4) (pa_cons (pe_ix ix_tup (pv 1) (pv 5) (fun _ _ => rfl)) pa_nil)))
      (pss_one (ps_set (i := 5) sc_names.nd rfl (Or.inl rfl) (pe_op op_sub (pv 5) pe_int)))))
      (pss_one (ps_ret (pe_callTy (T := "tuple") call_tuple_of (by rfl) T.m_tuple (by decide +kernel) (pa_cons (pe_callB (id := "sorted") (cr_sortedSet rfl) (by rfl) T.m_sorted (by decide +kernel) (pa_cons (pe_callTy (T := "set") (cr_setN rfl) (by rfl) T.m_set (by decide +kernel) (pa_cons (pv 4) pa_nil)) pa_nil)) pa_nil)))))), ?_⟩
    refine ⟨Nat.zero_le _, fun F hF => ⟨_, rfl, _, _, rfl, ?_⟩⟩
    let inv : Nat → L2.St → Hp → Prop := fun n σ J => ∃ i : Nat, n + i = g + 1 ∧ σ = [some (.ref th), some (.ref a), some (.int (m : Int)), some (.int s), some (.ref F), some (.int ((m : Int) - (i : Int)))] ∧ (∀ x ∈ (headsI ns m g).take i, x ≠ s) ∧ J F = some (.lst (((headsI ns m g).take i).map V.int)) ∧ Same H J
    refine ⟨inv, ⟨g + 1, 0, by omega, by rw [show (m : Int) - ((0 : Nat) : Int) = (m : Int) by omega]; rfl, fun x hx => absurd hx (by simp), by rw [upd_same]; rfl, same_new hF⟩, ?_⟩
    rintro n σ J ⟨i, hn, rfl, hne, hJ, S⟩
    have fin : (ahead s (headsI ns m g)) = (headsI ns m g).take i → J F = some (.lst ((ahead s (headsI ns m g)).map V.int)) := fun e => by rw [e]; exact hJ
    have la : ∀ l : List Int, (ahead s l).length ≤ l.length := fun l => by
      induction l with
      | nil => exact Nat.le_refl _
      | cons x r ih => simp only [ahead]; split <;> simp <;> omega
    have al : (ahead s (headsI ns m g)).length < 60 := by have := la (headsI ns m g); rw [heads_len] at this; omega
    refine ⟨_, rfl, _, rfl, _, rfl, th, _, 2, _, rfl, rfl, sameT S hth, rfl, _, _, rfl, rfl, _, _, rfl, rfl, _, rfl, ?_⟩
    by_cases ig : i ≤ g
    · rw [decide_eq_true (show (m : Int) - (g : Int) ≤ (m : Int) - (i : Int) by omega)]
      refine iteT ?_
      have hix : ns[m - i]? = some ns[m - i] := List.getElem?_eq_getElem (by omega)
      refine ⟨_, rfl, _, rfl, a, _, _, _, rfl, rfl, sameT S hx, (show atI (ns.map V.int) ((m : Int) - (i : Int)) = _ by rw [show ((m : Int) - (i : Int)) = ((m - i : Nat) : Int) by omega]; exact int_nat hix), ?_⟩
      refine ⟨_, rfl, rfl, _, rfl, ?_⟩
      have hg : (headsI ns m g)[i]? = some ns[m - i] := by rw [heads_get ig, List.getD_eq_getElem?_getD, hix]; rfl
      by_cases es : ns[m - i] = s
      · rw [decide_eq_true (show V.int ns[m - i] = V.int s by rw [es])]
        refine iteF ?_
        have ea := ahead_take hne (by rw [hg, es])
        exact ⟨_, rfl, F, ahead s (headsI ns m g), rfl, .inl (SqL.of (by rw [ea]; exact hJ)), by omega, fun p1 c lm h1 => ⟨p1, _, c, rfl, upd_same, by omega, fun out p2 o1 o2 o3 h2 => ⟨p2, _, rfl, .inl ⟨SqL.of upd_same, fun t ht =>
            k out t _ ⟨o1, fun u => by rw [o2 u]; exact decide_eq_true_iff⟩ (by omega) (((S.trans (same_new h1)).trans (same_new h2)).trans (same_new ht)) upd_same⟩⟩⟩⟩
      · rw [decide_eq_false fun e => es (V.int.inj e)]
        refine iteT ?_
        refine ⟨fun σ' J' => inv (g - i) σ' J', fun σ' J' h => ⟨g - i, by omega, h⟩, ?_⟩
        refine ⟨_, rfl, .inl ⟨rfl, _, SqL.of hJ⟩, _, rfl, _, rfl, a, _, _, _, rfl, rfl, sameT S hx, (show atI (ns.map V.int) ((m : Int) - (i : Int)) = _ by rw [show ((m : Int) - (i : Int)) = ((m - i : Nat) : Int) by omega]; exact int_nat hix), F, _, _, rfl, rfl, hJ, small1000 (by rw [List.length_map, List.length_take]; omega), ?_⟩
        refine ⟨_, rfl, _, _, rfl, rfl, i + 1, by omega, ?_, fun x hx' => ?_, ?_, write_same S hF⟩
        · rw [show (m : Int) - ((i + 1 : Nat) : Int) = (m : Int) - (i : Int) - 1 by omega]
          rfl
        · rw [List.take_add_one, hg] at hx'
          rcases List.mem_append.mp hx' with z | z
          · exact hne x z
          · rw [Option.toList_some, List.mem_singleton] at z
            rw [z]
            exact es
        · rw [upd_same, List.take_add_one, hg, List.map_append]
          rfl
    · rw [decide_eq_false (show ¬ (m : Int) - (g : Int) ≤ (m : Int) - (i : Int) by omega)]
      refine iteF (iteF ?_)
      have ea : ahead s (headsI ns m g) = (headsI ns m g).take i := by
        rw [List.take_of_length_le (by rw [heads_len]; omega)] at hne ⊢
        exact ahead_all hne
      exact ⟨_, rfl, F, ahead s (headsI ns m g), rfl, .inl (SqL.of (by rw [ea]; exact hJ)), by omega, fun p1 c lm h1 => ⟨p1, _, c, rfl, upd_same, by omega, fun out p2 o1 o2 o3 h2 => ⟨p2, _, rfl, .inl ⟨SqL.of upd_same, fun t ht =>
          k out t _ ⟨o1, fun u => by rw [o2 u]; exact decide_eq_true_iff⟩ (by omega) (((S.trans (same_new h1)).trans (same_new h2)).trans (same_new ht)) upd_same⟩⟩⟩⟩
end

section
variable {P : Program} {w : World} {K : PySem.W.Frag} {mg : Str → Option Value} {base : Heap}
theorem ok_lint (T : Txt K mg) : FnOk P w K mg base CX0 1 T.a_is_int T.d_is_int ["_law_value", "_law_low", "_law_high"] (sp_whole K) := by
  refine T.F_is_int.ok sc_is_int (fun vs H Q E h => ?_) (fun cdv A outer s H vs Q E hr h => ?_)
  · obtain ⟨v, d, lo, hi, rfl, _⟩ := h
    rfl
  · obtain ⟨v, d, lo, hi, rfl, hd, k⟩ := h
    refine ⟨_, (pss_one (ps_ret (pe_and (pe_callB (id := "isinstance") (call_isD "int" (by decide)) (by rfl) T.m_isinstance (by decide +kernel) (pa_cons (pv 0) (pa_cons (pe_bltn (v := .ty "int") (by rfl) T.m_int (by decide +kernel) rfl) pa_nil))) (pe_and (pe_not (pe_callB (id := "isinstance") (call_isD "bool" (by decide)) (by rfl) T.m_isinstance (by decide +kernel) (pa_cons (pv 0) (pa_cons (pe_bltn (v := .ty "bool") (by rfl) T.m_bool (by decide +kernel) rfl) pa_nil)))) (pe_one (pe_chain op_le op_le (pv 1) (pv 0) (pv 2))))))), ?_⟩
    refine ⟨_, rfl, v, d, rfl, hd, _, rfl, ?_⟩
    cases hi' : isA "int" d with
    | false =>
      rw [isA_whole (by rw [hi']; simp)] at k
      exact iteF k
    | true =>
    refine iteT ⟨_, rfl, v, d, rfl, hd, _, rfl, _, rfl, ?_⟩
    cases hb : isA "bool" d with
    | true =>
      rw [isA_whole (by rw [hb]; simp)] at k
      exact iteF k
    | false =>
    obtain ⟨i, rfl⟩ := isA_int_of (by rw [hb]; simp) (by rw [hi']; simp)
    cases hd
    refine iteT ⟨_, rfl, _, rfl, lo, i, rfl, rfl, _, rfl, ?_⟩
    by_cases hl : lo ≤ i
    · rw [decide_eq_true hl]
      refine iteT ⟨_, rfl, i, hi, rfl, rfl, ?_⟩
      have e : wholeD lo hi (.int i) = decide (i ≤ hi) := by simp only [wholeD, decide_eq_true hl, Bool.true_and]
      rw [e] at k
      exact k
    · rw [decide_eq_false hl]
      refine iteF ?_
      have e : wholeD lo hi (.int i) = false := by simp only [wholeD, decide_eq_false hl, Bool.false_and]
      rw [e] at k
      exact k
end

/-! ### the law's own word on courses and pairs -/
/-- a 1 for each item that is none -/
def badI (lo hi : Int) (ds : List PyData) : List Int := (ds.filter fun d => !wholeD lo hi d).map fun _ => 1
theorem bad_take {lo hi : Int} {ds : List PyData} {i : Nat} {d : PyData} (h : ds[i]? = some d) : badI lo hi (ds.take (i + 1)) = if wholeD lo hi d = true then badI lo hi (ds.take i) else badI lo hi (ds.take i) ++ [1] := by
  unfold badI
  rw [List.take_add_one, h, Option.toList_some, List.filter_append, List.map_append]
  cases e : wholeD lo hi d <;> simp [e]
theorem bad_len {lo hi : Int} {ds : List PyData} : (badI lo hi ds).length ≤ ds.length := by unfold badI; rw [List.length_map]; exact List.length_filter_le _ _
theorem bad_none {lo hi : Int} {ds : List PyData} : (badI lo hi ds).isEmpty = ds.all (wholeD lo hi) := by
  unfold badI
  rw [Bool.eq_iff_iff, List.isEmpty_iff, List.map_eq_nil_iff, List.filter_eq_nil_iff, List.all_eq_true]
  simp
def sp_lcourse (K : PySem.W.Frag) : Sp := fun vs H Q _ => ∃ (th : Addr) (v : V) (z r g : Int) (d : PyData), vs = [.ref th, v] ∧ SqT K H th [.int z, .int r, .int g] ∧ Dp K H v d ∧ SeqAt.shaped d = true ∧ (∀ ds, d = .tuple ds → ds.length ≤ 4000) ∧
  ∀ J, Same H J → Q (.bl (courseD z r d)) J
def sp_lpair (K : PySem.W.Frag) : Sp := fun vs H Q _ => ∃ (th : Addr) (v : V) (z r g : Int) (d : PyData), vs = [.ref th, v] ∧ SqT K H th [.int z, .int r, .int g] ∧ Dp K H v d ∧ ∀ J, Same H J → Q (.bl (tellB z d)) J
section
variable {P : Program} {w : World} {K : PySem.W.Frag} {mg : Str → Option Value} {base : Heap}
theorem ok_lcourse (T : Txt K mg) : FnOk P w K mg base CX0 2 T.a_l_is_course T.d_l_is_course ["_law_house_here", "_law_value"] (sp_lcourse K) := by
  have G_is_int : FnOk P w K mg base CX0 1 T.a_is_int T.d_is_int ["_law_value", "_law_low", "_law_high"] (sp_whole K) := ok_lint T
  have G_rest_kept : FnOk P w K mg base CX0 1 T.a_rest_kept T.d_rest_kept ["_law_course_here", "_law_rest"] (sp_kept K) := ok_kept T
  refine T.F_l_is_course.ok sc_l_is_course (fun vs H Q E h => ?_) (fun cdv A outer s H vs Q E hr h => ?_)
  · obtain ⟨th, v, z, r, g, d, rfl, _⟩ := h
    rfl
  · obtain ⟨th, v, z, r, g, d, rfl, hth, hd, hsh, hl, k⟩ := h
    refine ⟨_, (pss_cons (ps_if (PW.pt (pw_or (pt_not (pt_val (pe_callB (id := "isinstance") (call_isD "tuple" (by decide)) (by rfl) T.m_isinstance (by decide +kernel) (pa_cons (pv 1) (pa_cons (pe_bltn (v := .ty "tuple") (by rfl) T.m_tuple (by decide +kernel) rfl) pa_nil))))) (pw_or1 (pt_cmpR (op_eqD hr.units) (pv 1) (pe_tup pa_nil) (nomark _)))))
        (pss_one (ps_ret pe_bl))
        pss_nil)
      (pss_cons (ps_if (pt_cmpR (op_neD hr.units) (pe_lc (own := [("_law_one_here", 2)]) (g := gName 2) (by rfl) sc_l_is_course.nd (pi_tup (pv 1)) (blkOk_by (own := [("_law_one_here", 2)]) (N := ["_law_house_here", "_law_value", "_law_one_here"]) (sc := defScope s_l_is_course) (by decide +kernel)) (fun _ _ _ _ _ => (pg_name (i := 2) sc_l_is_course.nd rfl (Or.inl rfl))) (fun _ _ _ _ _ => (pts_one (pt_not (pt_val (pe_call G_is_int (hr.mono (by omega)) (by rfl) T.g_is_int T.F_is_int.kp T.b_is_int .nil pass0 (pa_cons (pv 2) (pa_cons pe_int (pa_cons (pe_op op_sub (pe_ix (ixTK K rfl) (pv 0) pe_int (fun _ _ => rfl)) pe_int) pa_nil)))))))) (fun _ _ _ _ _ => pe_int)) (pe_lst pa_nil) (nomark _))
        (pss_one (ps_ret pe_bl))
        pss_nil)
      (pss_one (ps_ret (pe_call G_rest_kept (hr.mono (by omega)) (by rfl) T.g_rest_kept T.F_rest_kept.kp T.b_rest_kept .nil pass0 (pa_cons (pv 1) (pa_cons (pe_ix ix_tup (pv 0) pe_int (fun _ _ => rfl)) pa_nil))))))), ?_⟩
    refine ⟨_, rfl, v, d, rfl, hd, _, rfl, ?_⟩
    cases ht : isA "tuple" d with
    | false =>
      have e : courseD z r d = false := by cases d <;> first | rfl | (exfalso; revert ht; simp [isA, isS, kindD])
      rw [e] at k
      exact iteT (iteT (k H (Same.refl H)))
    | true =>
    obtain ⟨ds, rfl⟩ := isA_tup ht
    have hl := hl ds rfl
    cases hd with
    | tup h1 h2 =>
    rename_i t xs
    have hle := dpAll_len h2
    refine iteF ⟨_, rfl, Nat.zero_le _, fun q hq => ?_⟩
    have s1 : Same H (upd H q (.tup [])) := same_new hq
    refine ⟨.tuple ds, .tuple [], .tup (sameT s1 h1) (dpAllSame s1 _ _ h2), .tup (SqT.of upd_same) .nil, hsh, by decide, _, rfl, ?_⟩
    rw [nil_tup]
    cases hE : ds.isEmpty with
    | true =>
      have e : courseD z r (.tuple ds) = false := by simp only [courseD, hE, Bool.not_true, Bool.false_and]
      rw [e] at k
      exact iteT (k _ s1)
    | false =>
    generalize upd H q (.tup []) = H1 at *
    refine iteF ⟨_, rfl, t, rfl, ⟨_, sameT s1 h1⟩, fun D hD => ?_⟩
    refine lc_tup (K := K) (a := t) (xs := xs) (fun i J => J = upd H1 D (.lst ((badI 0 (z - 1) (ds.take i)).map V.int))) rfl (fun i J _ e => by rw [e]; exact sameT (same_new hD) (sameT s1 h1)) ?_ ?_
    · rintro i x J hx rfl
      obtain ⟨e, he, xd⟩ := dpAll_get h2 hx
      have hS := same_new (o := .lst ((badI 0 (z - 1) (ds.take i)).map V.int)) hD
      have bt := bad_take (lo := 0) (hi := z - 1) he
      have bl := bad_len (lo := 0) (hi := z - 1) (ds := ds.take i)
      rw [List.length_take] at bl
      refine ⟨rfl, ?_⟩
      refine ⟨_, rfl, _, rfl, th, _, 0, _, rfl, rfl, sameT (s1.trans hS) hth, rfl, _, _, rfl, rfl, x, e, 0, z - 1, rfl, dpSame (s1.trans hS) _ _ xd, _, rfl, ?_⟩
      cases ew : wholeD 0 (z - 1) e with
      | true =>
        rw [ew, if_pos rfl] at bt
        rw [bt]
        exact iteF rfl
      | false =>
        rw [ew, if_neg (by decide)] at bt
        refine iteT ⟨_, upd_same, small1000' (by rw [List.length_map]; omega), ?_⟩
        rw [upd_upd, bt, List.map_append]
        rfl
    · rintro J rfl
      have s2 := s1.trans (same_new (o := .lst ((badI 0 (z - 1) (ds.take xs.length)).map V.int)) hD)
      have hD1 : upd H1 D (.lst ((badI 0 (z - 1) (ds.take xs.length)).map V.int)) D = some (.lst ((badI 0 (z - 1) ds).map V.int)) := by rw [upd_same, hle, List.take_of_length_le (Nat.le_refl _)]
      generalize upd H1 D (.lst ((badI 0 (z - 1) (ds.take xs.length)).map V.int)) = H2 at *
      refine ⟨Nat.zero_le _, fun q2 hq2 => ?_⟩
      have s3 := s2.trans (same_new (o := .lst []) hq2)
      refine ⟨.list ((badI 0 (z - 1) ds).map PyData.int), .list [], .lst (SqL.of (same_new hq2 _ _ hD1)) (ints_dp _), .lst (SqL.of upd_same) .nil, ints_shaped _, by decide, ?_⟩
      rw [ints_nil, bad_none]
      refine ⟨_, rfl, ?_⟩
      cases eb : ds.all (wholeD 0 (z - 1)) with
      | false =>
        have e : courseD z r (.tuple ds) = false := by simp only [courseD, eb, Bool.and_false, Bool.false_and]
        rw [e] at k
        exact iteT (k _ s3)
      | true =>
        have e : courseD z r (.tuple ds) = keptB (ds.map intD) r := by simp only [courseD, eb, hE, Bool.not_false, Bool.true_and]
        rw [e] at k
        have ex := all_whole h2 eb
        have h9 : SqT K H t ((ds.map intD).map V.int) := by rw [← ex]; exact h1
        have ln : (ds.map intD).length = ds.length := List.length_map ..
        refine iteF ⟨_, rfl, _, rfl, th, _, 1, _, rfl, rfl, sameT s3 hth, rfl, ?_⟩
        exact ⟨t, r, ds.map intD, rfl, .inr (sameT s3 h9), by omega, fun J2 S2 => k J2 (s3.trans S2)⟩
theorem ok_lpair (T : Txt K mg) : FnOk P w K mg base CX0 2 T.a_is_pair T.d_is_pair ["_law_house_here", "_law_value"] (sp_lpair K) := by
  have G_is_int : FnOk P w K mg base CX0 1 T.a_is_int T.d_is_int ["_law_value", "_law_low", "_law_high"] (sp_whole K) := ok_lint T
  refine T.F_is_pair.ok sc_is_pair (fun vs H Q E h => ?_) (fun cdv A outer s H vs Q E hr h => ?_)
  · obtain ⟨th, v, z, r, g, d, rfl, _⟩ := h
    rfl
  · obtain ⟨th, v, z, r, g, d, rfl, hth, hd, k⟩ := h
    refine ⟨_, (pss_cons (ps_if (PW.pt (pw_or (pt_not (pt_val (pe_callB (id := "isinstance") (call_isD "tuple" (by decide)) (by rfl) T.m_isinstance (by decide +kernel) (pa_cons (pv 1) (pa_cons (pe_bltn (v := .ty "tuple") (by rfl) T.m_tuple (by decide +kernel) rfl) pa_nil))))) (pw_or1 (pt_cmpR op_ne (pe_callB (id := "len") call_len_seq (by rfl) T.m_len (by decide +kernel) (pa_cons (pv 1) pa_nil)) pe_int (nomark _)))))
        (pss_one (ps_ret pe_bl))
        pss_nil)
      (pss_one (ps_ret (pe_cmpR (op_eqD hr.units) (pe_lc (own := [("_law_one_here", 2)]) (g := gName 2) (by rfl) sc_is_pair.nd (pi_tup (pv 1)) (blkOk_by (own := [("_law_one_here", 2)]) (N := ["_law_house_here", "_law_value", "_law_one_here"]) (sc := defScope s_is_pair) (by decide +kernel)) (fun _ _ _ _ _ => (pg_name (i := 2) sc_is_pair.nd rfl (Or.inl rfl))) (fun _ _ _ _ _ => (pts_one (pt_not (pt_val (pe_call G_is_int (hr.mono (by omega)) (by rfl) T.g_is_int T.F_is_int.kp T.b_is_int .nil pass0 (pa_cons (pv 2) (pa_cons (pe_un un_neg pe_int) (pa_cons (pe_op op_sub (pe_ix (ixTK K rfl) (pv 0) pe_int (fun _ _ => rfl)) pe_int) pa_nil)))))))) (fun _ _ _ _ _ => pe_int)) (pe_lst pa_nil) (nomark _))))), ?_⟩
    refine ⟨_, rfl, v, d, rfl, hd, _, rfl, ?_⟩
    cases ht : isA "tuple" d with
    | false =>
      have e : tellB z d = false := by cases d <;> first | rfl | (exfalso; revert ht; simp [isA, isS, kindD])
      rw [e] at k
      exact iteT (iteT (k H (Same.refl H)))
    | true =>
    obtain ⟨ds, rfl⟩ := isA_tup ht
    cases hd with
    | tup h1 h2 =>
    rename_i t xs
    have hle := dpAll_len h2
    refine iteF ⟨_, rfl, t, xs, rfl, .inr h1, rfl, _, rfl, ?_⟩
    by_cases n2 : ds.length = 2
    · have eT : tellB z (.tuple ds) = ds.all (wholeD (-1) (z - 1)) := by simp only [tellB, n2, decide_true, Bool.true_and]
      rw [eT] at k
      rw [show (!decide (V.int (xs.length : Int) = V.int 2)) = false by rw [hle, n2]; rfl]
      refine iteF ⟨_, rfl, t, rfl, ⟨_, h1⟩, fun D hD => ?_⟩
      refine lc_tup (K := K) (a := t) (xs := xs) (fun i J => J = upd H D (.lst ((badI (-1) (z - 1) (ds.take i)).map V.int))) rfl (fun i J _ e => by rw [e]; exact sameT (same_new hD) h1) ?_ ?_
      · rintro i x J hx rfl
        obtain ⟨e, he, xd⟩ := dpAll_get h2 hx
        have hS := same_new (o := .lst ((badI (-1) (z - 1) (ds.take i)).map V.int)) hD
        have bt := bad_take (lo := -1) (hi := z - 1) he
        have bl := bad_len (lo := -1) (hi := z - 1) (ds := ds.take i)
        rw [List.length_take] at bl
        refine ⟨rfl, ?_⟩
        refine ⟨_, rfl, 1, rfl, _, rfl, th, _, 0, _, rfl, rfl, sameT hS hth, rfl, _, _, rfl, rfl, x, e, -1, z - 1, rfl, dpSame hS _ _ xd, _, rfl, ?_⟩
        cases ew : wholeD (-1) (z - 1) e with
        | true =>
          rw [ew, if_pos rfl] at bt
          rw [bt]
          exact iteF rfl
        | false =>
          rw [ew, if_neg (by decide)] at bt
          refine iteT ⟨_, upd_same, small1000' (by rw [List.length_map]; omega), ?_⟩
          rw [upd_upd, bt, List.map_append]
          rfl
      · rintro J rfl
        have s2 := same_new (o := .lst ((badI (-1) (z - 1) (ds.take xs.length)).map V.int)) hD
        have hD1 : upd H D (.lst ((badI (-1) (z - 1) (ds.take xs.length)).map V.int)) D = some (.lst ((badI (-1) (z - 1) ds).map V.int)) := by rw [upd_same, hle, List.take_of_length_le (Nat.le_refl _)]
        generalize upd H D (.lst ((badI (-1) (z - 1) (ds.take xs.length)).map V.int)) = H2 at *
        refine ⟨Nat.zero_le _, fun q2 hq2 => ?_⟩
        have s3 := s2.trans (same_new (o := .lst []) hq2)
        refine ⟨.list ((badI (-1) (z - 1) ds).map PyData.int), .list [], .lst (SqL.of (same_new hq2 _ _ hD1)) (ints_dp _), .lst (SqL.of upd_same) .nil, ints_shaped _, by decide, ?_⟩
        rw [ints_nil, bad_none]
        exact k _ s3
    · have eT : tellB z (.tuple ds) = false := by simp only [tellB, decide_eq_false n2, Bool.false_and]
      rw [eT] at k
      rw [show (!decide (V.int (xs.length : Int) = V.int 2)) = true by simp only [V.int.injEq, Bool.not_eq_true', decide_eq_false_iff_not]; omega]
      exact iteT (k H (Same.refl H))
end

/-! ### the law's own word on stories -/
def sp_lstory (K : PySem.W.Frag) : Sp := fun vs H Q _ => ∃ (th : Addr) (tv v : V) (z r : Int) (g : Nat) (rs : List Row) (d : PyData), vs = [.ref th, tv, v] ∧ SqT K H th [.int z, .int r, .int (g : Int)] ∧ Dp K H tv (tableD rs) ∧ Dp K H v d ∧ (∀ c t, d = .tuple [c, t] → SeqAt.shaped c = true ∧ SeqAt.shaped t = true ∧ ∀ cs, c = .tuple cs → cs.length ≤ 4000) ∧
  g < 50 ∧ (∀ row ∈ rs, RowOf (rs.length : Int) row) ∧ 0 < rs.length ∧ 2 ≤ z ∧ z ≤ 4 ∧ ∀ J, Same H J → Q (.bl (storyD z r g rs d)) J
section
variable {P : Program} {w : World} {K : PySem.W.Frag} {mg : Str → Option Value} {base : Heap}
theorem ok_lstory (T : Txt K mg) : FnOk P w K mg base CX0 3 T.a_l_is_story T.d_l_is_story ["_law_house_here", "_law_table_here", "_law_value"] (sp_lstory K) := by
  have G_l_is_course : FnOk P w K mg base CX0 2 T.a_l_is_course T.d_l_is_course ["_law_house_here", "_law_value"] (sp_lcourse K) := ok_lcourse T
  have G_is_pair : FnOk P w K mg base CX0 2 T.a_is_pair T.d_is_pair ["_law_house_here", "_law_value"] (sp_lpair K) := ok_lpair T
  have G_asked : FnOk P w K mg base CX0 1 T.a_asked T.d_asked ["_law_house_here", "_law_table_here", "_law_asker"] (sp_lasked K) := ok_lasked T
  have G_later : FnOk P w K mg base CX0 2 T.a_later T.d_later ["_law_house_here", "_law_table_here", "_law_asker", "_law_name"] (sp_later K) := ok_later T
  have G_names : FnOk P w K mg base CX0 1 T.a_names T.d_names ["_law_house_here", "_law_course_here", "_law_moment", "_law_server"] (sp_lnames K) := ok_lnames T
  refine T.F_l_is_story.ok sc_l_is_story (fun vs H Q E h => ?_) (fun cdv A outer s H vs Q E hr h => ?_)
  · obtain ⟨th, tv, v, z, r, g, rs, d, rfl, _⟩ := h
    rfl
  · obtain ⟨th, tv, v, z, r, g, rs, d, rfl, hth, htv, hd, hc4, g50, hrs, r0, z2, z4, k⟩ := h
    refine ⟨_, (pss_cons (ps_if (PW.pt (pw_or (pt_not (pt_val (pe_callB (id := "isinstance") (call_isD "tuple" (by decide)) (by rfl) T.m_isinstance (by decide +kernel) (pa_cons (pv 2) (pa_cons (pe_bltn (v := .ty "tuple") (by rfl) T.m_tuple (by decide +kernel) rfl) pa_nil))))) (pw_or (pt_cmpR op_ne (pe_callB (id := "len") call_len_seq (by rfl) T.m_len (by decide +kernel) (pa_cons (pv 2) pa_nil)) pe_int (nomark _)) (pw_or1 (pt_not (pt_val (pe_call G_l_is_course (hr.mono (by omega)) (by rfl) T.g_l_is_course T.F_l_is_course.kp T.b_l_is_course .nil pass0 (pa_cons (pv 0) (pa_cons (pe_ix ix_tup (pv 2) pe_int (fun _ _ => rfl)) pa_nil)))))))))
        (pss_one (ps_ret pe_bl))
        pss_nil)
      (pss_cons (ps_asg (pv 2) (pg_tup (by rfl) (pgs_cons (pg_name (i := 3) sc_l_is_story.nd rfl (Or.inl rfl)) (pgs_cons (pg_name (i := 4) sc_l_is_story.nd rfl (Or.inl rfl)) pgs_nil))))
      (pss_cons (ps_if (PW.pt (pw_or (pt_not (pt_val (pe_callB (id := "isinstance") (call_isD "tuple" (by decide)) (by rfl) T.m_isinstance (by decide +kernel) (pa_cons (pv 4) (pa_cons (pe_bltn (v := .ty "tuple") (by rfl) T.m_tuple (by decide +kernel) rfl) pa_nil))))) (pw_or (pt_cmpR (op_eqD hr.units) (pv 4) (pe_tup pa_nil) (nomark _)) (pw_or1 (pt_cmpR op_ne (pe_callB (id := "len") call_len_seq (by rfl) T.m_len (by decide +kernel) (pa_cons (pv 3) pa_nil)) (pe_op op_add (pe_ix ix_tup (pv 0) pe_int (fun _ _ => rfl)) (pe_callB (id := "len") call_len_seq (by rfl) T.m_len (by decide +kernel) (pa_cons (pv 4) pa_nil))) (nomark _))))))
        (pss_one (ps_ret pe_bl))
        pss_nil)
      (pss_cons (ps_set (i := 5) sc_l_is_story.nd rfl (Or.inl rfl) (pe_tup (pa_cons pe_int (pa_cons pe_int (pa_cons (pe_un un_neg pe_int) pa_nil)))))
      (pss_cons (ps_for PassesOwn.never rfl (pi_enumT (by rfl) T.m_enumerate (pa_cons (pv 4) pa_nil)) (pg_tup (by rfl) (pgs_cons (pg_name (i := 6) sc_l_is_story.nd rfl (Or.inl rfl)) (pgs_cons (pg_name (i := 7) sc_l_is_story.nd rfl (Or.inl rfl)) pgs_nil)))
        (pss_cons (ps_set (i := 8) sc_l_is_story.nd rfl (Or.inl rfl) (pe_op op_add (pe_ix ix_tup (pv 0) pe_int (fun _ _ => rfl)) (pv 6)))
      (pss_cons (ps_if (PW.pt (pw_or (pt_not (pt_val (pe_call G_is_pair (hr.mono (by omega)) (by rfl) T.g_is_pair T.F_is_pair.kp T.b_is_pair .nil pass0 (pa_cons (pv 0) (pa_cons (pv 7) pa_nil))))) (pw_or1 (pt_cmpR op_ne (pe_ix ix_tup (pv 7) pe_int (fun _ _ => rfl)) (pe_call G_asked (hr.mono (by omega)) (by rfl) T.g_asked T.F_asked.kp T.b_asked .nil pass0 (pa_cons (pv 0) (pa_cons (pv 1) (pa_cons (pv 5) pa_nil)))) (nomark _)))))
        (pss_one (ps_ret pe_bl))
        pss_nil)
      (pss_cons (ps_if (pt_cmpR op_eq (pe_ix ix_tup (pv 7) pe_int (fun _ _ => rfl)) (pe_ix ix_tup (pv 3) (pv 8) (fun _ _ => rfl)) (nomark _))
        (pss_one (ps_ret (pe_and (pe_cmpR op_eq (pe_ix ix_tup (pv 7) pe_int (fun _ _ => rfl)) (pe_un un_neg pe_int) (nomark _)) (pe_one (pe_cmpR op_eq (pv 6) (pe_op op_sub (pe_callB (id := "len") call_len_seq (by rfl) T.m_len (by decide +kernel) (pa_cons (pv 4) pa_nil)) pe_int) (nomark _))))))
        pss_nil)
      (pss_cons (ps_set (i := 9) sc_l_is_story.nd rfl (Or.inl rfl) (pe_ifExp (pt_cmpR op_eq (pe_ix ix_tup (pv 7) pe_int (fun _ _ => rfl)) (pe_un un_neg pe_int) (nomark _)) (pe_tup (pa_cons (pe_un un_neg pe_int) pa_nil)) (pe_call G_names (hr.mono (by omega)) (by rfl) T.g_names T.F_names.kp T.b_names .nil pass0 (pa_cons (pv 0) (pa_cons (pv 3) (pa_cons (pv 8) (pa_cons (pe_ix ix_tup (pv 7) pe_int (fun _ _ => rfl)) pa_nil)))))))
      (pss_cons (ps_if (pt_cmpR op_notIn_seq (pe_ix ix_tup (pv 7) pe_int (fun _ _ => rfl)) (pv 9) (by rfl))
        (pss_one (ps_ret pe_bl))
        pss_nil)
      (pss_one (ps_set (i := 5) sc_l_is_story.nd rfl (Or.inl rfl) (pe_call G_later (hr.mono (by omega)) (by rfl) T.g_later T.F_later.kp T.b_later .nil pass0 (pa_cons (pv 0) (pa_cons (pv 1) (pa_cons (pv 5) (pa_cons (pe_ix ix_tup (pv 7) pe_int (fun _ _ => rfl)) pa_nil)))))))))))))
      (pss_one (ps_ret pe_bl))))))), ?_⟩
    refine ⟨_, rfl, v, d, rfl, hd, _, rfl, ?_⟩
    cases ht : isA "tuple" d with
    | false =>
      have e : storyD z r g rs d = false := by cases d <;> first | rfl | (exfalso; revert ht; simp [isA, isS, kindD])
      rw [e] at k
      exact iteT (iteT (k H (Same.refl H)))
    | true =>
    obtain ⟨ds0, rfl⟩ := isA_tup ht
    cases hd with
    | tup h1 hd2 =>
    rename_i vt vx
    have hle := dpAll_len hd2
    refine iteF ⟨_, rfl, vt, vx, rfl, .inr h1, rfl, _, rfl, ?_⟩
    by_cases n2 : ds0.length = 2
    case neg =>
      have eT : storyD z r g rs (.tuple ds0) = false := storyD_short (by simp only [tupD, decide_eq_false_iff_not]; omega)
      rw [eT] at k
      rw [show (!decide (V.int (vx.length : Int) = V.int 2)) = true by simp only [V.int.injEq, Bool.not_eq_true', decide_eq_false_iff_not]; omega]
      exact iteT (iteT (k H (Same.refl H)))
    rw [show (!decide (V.int (vx.length : Int) = V.int 2)) = false by rw [hle, n2]; rfl]
    obtain ⟨c, t, rfl⟩ : ∃ c t, ds0 = [c, t] := by
      match ds0, n2 with
      | [c, t], _ => exact ⟨c, t, rfl⟩
    obtain ⟨shc, sht, hc5⟩ := hc4 c t rfl
    cases hd2 with
    | cons hcd hd2 =>
    cases hd2 with
    | cons htd hd2 =>
    cases hd2
    rename_i vc vt2
    refine iteF ⟨_, rfl, _, rfl, vt, _, 0, _, rfl, rfl, h1, rfl, th, _, z, r, (g : Int), c, rfl, hth, hcd, shc, fun ds e => hc5 ds e, fun J1 S1 => ⟨_, rfl, ?_⟩⟩
    cases hC : courseD z r c with
    | false =>
      have e : storyD z r g rs (.tuple [c, t]) = false := by simp only [storyD, hC, Bool.false_and]
      rw [e] at k
      exact iteT (k J1 S1)
    | true =>
    obtain ⟨cd, rfl, hall⟩ := courseD_tup hC
    refine iteF ⟨_, rfl, _, _, rfl, sameT S1 h1, rfl, _, _, rfl, _, _, rfl, rfl, ?_⟩
    refine ⟨_, rfl, _, t, rfl, dpSame S1 _ _ htd, _, rfl, ?_⟩
    cases hT : isA "tuple" t with
    | false =>
      have e : storyD z r g rs (.tuple [.tuple cd, t]) = false := by
        simp only [storyD, hC, Bool.true_and]
        cases t <;> first | rfl | (exfalso; revert hT; simp [isA, isS, kindD])
      rw [e] at k
      exact iteT (iteT (k J1 S1))
    | true =>
    obtain ⟨td, rfl⟩ := isA_tup hT
    have eS : storyD z r g rs (.tuple [.tuple cd, .tuple td]) = (decide (0 < td.length ∧ cd.length = g + td.length) && playB z rs (cd.map intD) g g 0 0 (-1) td) := by simp only [storyD, hC, Bool.true_and]
    rw [eS] at k
    have ld := hc5 cd rfl
    cases htd with
    | tup g1 g2 =>
    rename_i tt xt
    cases hcd with
    | tup c1 c2 =>
    rename_i tc xc
    have ex := all_whole c2 hall
    have inC := whole_inZ hall
    have lm : (cd.map intD).length = cd.length := List.length_map ..
    have lt := dpAll_len g2
    have lc := dpAll_len c2
    refine iteF ⟨_, rfl, Nat.zero_le _, fun q0 hq0 => ?_⟩
    have S2 := S1.trans (same_new (o := .tup []) hq0)
    refine ⟨.tuple td, .tuple [], .tup (sameT S2 g1) (dpAllSame S2 _ _ g2), .tup (SqT.of upd_same) .nil, sht, by decide, ?_⟩
    rw [nil_tup]
    generalize upd J1 q0 (.tup []) = J2 at *
    refine ⟨_, rfl, ?_⟩
    cases hE : td.isEmpty with
    | true =>
      have t0 : td.length = 0 := by rw [List.isEmpty_iff.mp hE]; rfl
      have e : decide (0 < td.length ∧ cd.length = g + td.length) = false := decide_eq_false (by omega)
      rw [e, Bool.false_and] at k
      exact iteT (iteT (k J2 S2))
    | false =>
    have t0 : 0 < td.length := by
      cases td with
      | nil => cases hE
      | cons _ _ => exact Nat.succ_pos _
    refine iteF ⟨_, rfl, tc, xc, rfl, .inr (sameT S2 c1), _, rfl, th, _, 2, _, rfl, rfl, sameT S2 hth, rfl, _, rfl, tt, xt, rfl, .inr (sameT S2 g1), _, _, rfl, rfl, rfl, _, rfl, ?_⟩
    by_cases hl : cd.length = g + td.length
    case neg =>
      rw [show (!decide (V.int (xc.length : Int) = V.int ((g : Int) + (xt.length : Int)))) = true by simp only [V.int.injEq, Bool.not_eq_true', decide_eq_false_iff_not]; omega]
      have e : decide (0 < td.length ∧ cd.length = g + td.length) = false := decide_eq_false (by omega)
      rw [e, Bool.false_and] at k
      exact iteT (k J2 S2)
    rw [show (!decide (V.int (xc.length : Int) = V.int ((g : Int) + (xt.length : Int)))) = false by simp only [V.int.injEq, Bool.not_eq_false', decide_eq_true_eq]; omega]
    have e : decide (0 < td.length ∧ cd.length = g + td.length) = true := decide_eq_true ⟨by omega, hl⟩
    rw [e, Bool.true_and] at k
    have hx : SqT K J2 tc ((cd.map intD).map V.int) := by rw [← ex]; exact sameT S2 c1
    rw [← lm] at hl ld
    generalize cd.map intD = cs at *
    have hth2 := sameT S2 hth
    have htv2 := dpSame S2 _ _ htv
    have htt2 := sameT S2 g1
    have g22 := dpAllSame S2 _ _ g2
    obtain ⟨ta, txs, rfl, _, _, _⟩ := dp_table htv
    refine iteF ⟨1, rfl, by show 3 ≤ sizeLine; decide, fun t0' ht0' => ?_⟩
    have S3 := same_new (o := .tup [.int 0, .int 0, .int (-1)]) ht0'
    have hA0 : SqT K (upd J2 t0' (.tup [.int 0, .int 0, .int (-1)])) t0' [.int ((0 : Nat) : Int), .int 0, .int (-1)] := SqT.of upd_same
    refine ⟨_, rfl, tt, xt, rfl, sameT S3 htt2, ?_⟩
    generalize upd J2 t0' (.tup [.int 0, .int 0, .int (-1)]) = J3 at *
    have hth3 := sameT S3 hth2
    have htv3 := dpSame S3 _ _ htv2
    have htt3 := sameT S3 htt2
    have hx3 := sameT S3 hx
    have g23 := dpAllSame S3 _ _ g22
    have S23 := S2.trans S3
    have dH : ∀ J, Same J3 J → Dp K J (.ref th) (houseT z r (g : Int)) := fun J R => .tup (sameT R hth3) (.cons (.int z) (.cons (.int r) (.cons (.int (g : Int)) .nil)))
    refine for_it (walk_enumT (K := K) (a := tt) (xs := xt) (c := 0)) (fun i σ J => ∃ (y6 y7 y8 y9 : Option V) (t : Addr) (ii : Nat) (named asked : Int), σ = [some (.ref th), some (.ref ta), some (.ref vt), some (.ref tc), some (.ref tt), some (.ref t), y6, y7, y8, y9] ∧ SqT K J t [.int (ii : Int), .int named, .int asked] ∧ ii < rs.length ∧ 0 ≤ named ∧ named < z ∧ -1 ≤ asked ∧ asked < z ∧ Same J3 J ∧
      playB z rs cs g g 0 0 (-1) td = playB z rs cs g (g + i) ii named asked (td.drop i)) ⟨none, none, none, none, t0', 0, 0, -1, rfl, hA0, r0, by omega, by omega, by omega, by omega, Same.refl J3, rfl⟩ (fun i σ J _ h => ?_) ?_ ?_
    · obtain ⟨_, _, _, _, _, _, _, _, _, _, _, _, _, _, _, R, _⟩ := h
      exact sameT R htt3
    · rintro i v σ J J' hi ⟨y6, y7, y8, y9, t, ii, named, asked, rfl, hq, hii, nm0, nm1, as0, as1, R, eP⟩ ⟨Tp, x1, x2, rfl, hTn, rfl, e1, hxi⟩
      cases e1
      obtain ⟨d, hd, xd⟩ := dpAll_get g23 hxi
      have R1 : Same J3 (upd J Tp (.tup [.int (0 + (i : Int)), x2])) := R.trans (same_new hTn)
      have hTp : upd J Tp (.tup [.int (0 + (i : Int)), x2]) Tp = some (.tup [.int (0 + (i : Int)), x2]) := upd_same
      have hq1 := sameT (same_new (o := .tup [.int (0 + (i : Int)), x2]) hTn) hq
      generalize upd J Tp (.tup [.int (0 + (i : Int)), x2]) = J4 at *
      have lt' : i < td.length := (List.getElem?_eq_some_iff.mp hd).1
      have dr : td.drop i = d :: td.drop (i + 1) := by
        rw [← List.getElem_cons_drop lt']
        exact congrArg (· :: _) (List.getElem?_eq_some_iff.mp hd).2
      obtain ⟨row, hrow⟩ : ∃ row, rs[ii]? = some row := ⟨_, List.getElem?_eq_getElem hii⟩
      have rowOf := hrs row (List.mem_of_getElem? hrow)
      have ePl : playB z rs cs g g 0 0 (-1) td = match stepB z row named asked cs g (g + i) (td.drop (i + 1)).isEmpty d with
          | .inr b => b
          | .inl nm => playB z rs cs g (g + (i + 1)) (nextA z row named asked nm).1.toNat (nextA z row named asked nm).2.1 (nextA z row named asked nm).2.2 (td.drop (i + 1)) := by
        rw [eP, dr]
        simp only [playB, hrow]
        rfl
      refine ⟨Tp, _, rfl, SqT.of hTp, rfl, _, _, rfl, _, _, rfl, rfl, ?_⟩
      have em : (g : Int) + (0 + (i : Int)) = ((g + i : Nat) : Int) := by omega
      refine ⟨_, rfl, th, _, 2, _, rfl, rfl, sameT R1 hth3, rfl, _, rfl, _, _, rfl, rfl, ?_⟩
      refine (?_ : gName 8 (V.int ((g : Int) + (0 + (i : Int)))) _ J4 _)
      rw [em]
      refine ⟨_, rfl, _, rfl, th, x2, z, r, (g : Int), d, rfl, sameT R1 hth3, dpSame R1 _ _ xd, fun J5 S5 => ⟨_, rfl, ?_⟩⟩
      have R2 := R1.trans S5
      cases hB : tellB z d with
      | false =>
        rw [ePl, stepB_not hB] at k
        exact iteT (iteT (k J5 (S23.trans R2)))
      | true =>
      obtain ⟨a, b, rfl, a1, a2, b1, b2⟩ := tellB_pair hB
      have hq2 := sameT S5 hq1
      have dA : ∀ L, Same J5 L → Dp K L (.ref t) (askerD ((ii : Int), named, asked)) := fun L G => .tup (sameT G hq2) (.cons (.int _) (.cons (.int _) (.cons (.int _) .nil)))
      obtain ⟨ap, eap, sap⟩ := dp_two (dpSame R2 _ _ xd)
      cases eap
      have mlt : g + i < cs.length := by omega
      have cat : atI (cs.map V.int) ((g + i : Nat) : Int) = some (.int cs[g + i]) := int_nat (List.getElem?_eq_getElem mlt)
      have cgd : cs.getD (g + i) 0 = cs[g + i] := by rw [List.getD_eq_getElem?_getD, List.getElem?_eq_getElem mlt]; rfl
      have cin := inC _ (List.getElem_mem mlt)
      have small := ask_small (x := row.1) (asked := asked) (show 0 < z by omega) nm0 nm1
      refine iteF ⟨_, rfl, ap, _, 0, _, rfl, rfl, sap, rfl, _, rfl, _, rfl, _, rfl, .ref th, .ref ta, .ref t, z, r, (g : Int), rs, ii, named, asked, row, rfl, dH _ R2, dpSame R2 _ _ htv3, dA _ (Same.refl _), hrow, rowOf.1, by omega, ?_⟩
      have stepE : stepB z row named asked cs g (g + i) (td.drop (i + 1)).isEmpty (.tuple [.int a, .int b]) = match askN z row.1 named asked with
          | none => if a = -1 ∧ b = -1 then .inl b else .inr false
          | some s => if s = cs.getD (g + i) 0 then .inr (decide (a = s) && decide (b = -1) && (td.drop (i + 1)).isEmpty) else if a = s ∧ b ∈ ahead s (headsI cs (g + i) g) then .inl b else .inr false := by
        simp only [stepB]
        rw [if_pos ⟨a1, a2, b1, b2⟩]
        all_goals (cases askN z row.1 named asked <;> rfl)
      refine ⟨rfl, _, rfl, ?_⟩
      by_cases hax : a = (askN z row.1 named asked).getD (-1)
      case neg =>
        rw [decide_eq_false fun e => hax (V.int.inj e)]
        refine iteT ?_
        have e : stepB z row named asked cs g (g + i) (td.drop (i + 1)).isEmpty (.tuple [.int a, .int b]) = .inr false := by
          rw [stepE]
          cases eA : askN z row.1 named asked with
          | none =>
            rw [eA] at hax
            show (if a = -1 ∧ b = -1 then _ else _) = _
            rw [if_neg fun q => hax q.1]
          | some s =>
            rw [eA] at hax
            have hax' : ¬ a = s := hax
            show (if s = cs.getD (g + i) 0 then _ else if a = s ∧ _ then _ else _) = _
            rw [if_neg (fun q : a = s ∧ _ => hax' q.1), decide_eq_false hax', Bool.false_and, Bool.false_and]
            split <;> rfl
        rw [ePl, e] at k
        exact k J5 (S23.trans R2)
      rw [decide_eq_true (by rw [hax])]
      refine iteF ?_
      refine ⟨_, rfl, ap, _, 0, _, rfl, rfl, sap, rfl, _, rfl, _, rfl, tc, _, _, _, rfl, rfl, sameT R2 hx3, cat, rfl, _, rfl, ?_⟩
      by_cases hs : a = cs[g + i]
      · -- served
        rw [decide_eq_true (by rw [hs])]
        have eA : askN z row.1 named asked = some a := by
          cases e : askN z row.1 named asked with
          | none => rw [e] at hax; have : a = -1 := hax; omega
          | some y => rw [e] at hax; have : a = y := hax; rw [this]
        have e : stepB z row named asked cs g (g + i) (td.drop (i + 1)).isEmpty (.tuple [.int a, .int b]) = .inr (decide (b = -1) && (td.drop (i + 1)).isEmpty) := by
          rw [stepE, eA]
          show (if a = cs.getD (g + i) 0 then _ else _) = _
          rw [cgd, if_pos hs, decide_eq_true rfl, Bool.true_and]
        rw [ePl, e] at k
        have ell : (td.drop (i + 1)).isEmpty = decide (V.int (0 + (i : Int)) = V.int ((xt.length : Int) - 1)) := by
          rw [Bool.eq_iff_iff, List.isEmpty_iff, decide_eq_true_iff, List.drop_eq_nil_iff, V.int.injEq]
          omega
        refine iteT ⟨_, rfl, ap, _, 1, _, rfl, rfl, sap, rfl, 1, rfl, rfl, _, rfl, ?_⟩
        by_cases hb : b = -1
        · rw [decide_eq_true hb, Bool.true_and, ell] at k
          rw [decide_eq_true (show V.int b = V.int (-1) by rw [hb])]
          exact iteT ⟨_, rfl, _, rfl, tt, xt, rfl, .inr (sameT R2 htt3), _, _, rfl, rfl, rfl, k J5 (S23.trans R2)⟩
        · rw [decide_eq_false hb, Bool.false_and] at k
          rw [decide_eq_false fun q => hb (V.int.inj q)]
          exact iteF (k J5 (S23.trans R2))
      rw [decide_eq_false fun q => hs (V.int.inj q)]
      refine iteF ⟨_, rfl, ap, _, 0, _, rfl, rfl, sap, rfl, 1, rfl, rfl, _, rfl, ?_⟩
      have behind : ∀ (J6 : Hp), Same J5 J6 → (askN z row.1 named asked = none ∨ (0 ≤ b ∧ b < z)) → stepB z row named asked cs g (g + i) (td.drop (i + 1)).isEmpty (.tuple [.int a, .int b]) = .inl b → ∀ q, J6 q = none →
          SqT K (upd J6 q (.tup [.int (nextA z row named asked b).1, .int (nextA z row named asked b).2.1, .int (nextA z row named asked b).2.2])) q [.int (((nextA z row named asked b).1.toNat : Nat) : Int), .int (nextA z row named asked b).2.1, .int (nextA z row named asked b).2.2] ∧
          (nextA z row named asked b).1.toNat < rs.length ∧ 0 ≤ (nextA z row named asked b).2.1 ∧ (nextA z row named asked b).2.1 < z ∧ -1 ≤ (nextA z row named asked b).2.2 ∧ (nextA z row named asked b).2.2 < z ∧
          Same J3 (upd J6 q (.tup [.int (nextA z row named asked b).1, .int (nextA z row named asked b).2.1, .int (nextA z row named asked b).2.2])) ∧
          playB z rs cs g g 0 0 (-1) td = playB z rs cs g (g + (i + 1)) (nextA z row named asked b).1.toNat (nextA z row named asked b).2.1 (nextA z row named asked b).2.2 (td.drop (i + 1)) := fun J6 S6 hnm eB q hq' => by
        obtain ⟨⟨u0, u1⟩, ⟨u2, u3⟩, u4, u5⟩ : (0 ≤ (nextA z row named asked b).1 ∧ (nextA z row named asked b).1 < (rs.length : Int)) ∧ (0 ≤ (nextA z row named asked b).2.1 ∧ (nextA z row named asked b).2.1 < z) ∧ -1 ≤ (nextA z row named asked b).2.2 ∧ (nextA z row named asked b).2.2 < z := by
          rcases hnm with h | h
          · obtain ⟨_, w0, w1, _, _⟩ := rowOf
            have e : nextA z row named asked b = (row.2.1, named, asked) := by unfold nextA; rw [h]
            rw [e]
            exact ⟨⟨w0, w1⟩, ⟨nm0, nm1⟩, as0, as1⟩
          · exact next_in rowOf (show 0 < z by omega) nm0 nm1 as0 as1 h.1 h.2
        refine ⟨?_, by omega, u2, u3, u4, u5, (R2.trans S6).trans (same_new hq'), ?_⟩
        · rw [Int.toNat_of_nonneg u0]
          exact SqT.of upd_same
        · rw [ePl, eB]
      cases eA : askN z row.1 named asked with
      | none =>
        rw [eA] at hax
        have ha : a = -1 := hax
        rw [decide_eq_true (show V.int a = V.int (-1) by rw [ha])]
        refine iteT ⟨1, rfl, by show 1 ≤ sizeLine; decide, fun q hq' => ?_⟩
        have Sq := same_new (o := .tup [.int (-1)]) hq'
        refine ⟨_, rfl, ap, _, 1, _, rfl, rfl, sameT Sq sap, rfl, _, rfl, q, _, rfl, .inr (SqT.of upd_same), rfl, rfl, ?_⟩
        have ei : inV (.int b) [V.int (-1)] = decide (b = -1) := by
          rw [show [V.int (-1)] = [(-1 : Int)].map V.int from rfl, inV_ints, Bool.eq_iff_iff]
          simp
        have e : stepB z row named asked cs g (g + i) (td.drop (i + 1)).isEmpty (.tuple [.int a, .int b]) = if a = -1 ∧ b = -1 then .inl b else .inr false := by rw [stepE, eA]
        rw [if_pos rfl, ei]
        by_cases hb : b = -1
        · rw [decide_eq_true hb]
          rw [if_pos ⟨ha, hb⟩] at e
          refine ⟨_, rfl, iteF ?_⟩
          refine ⟨_, rfl, _, rfl, _, rfl, _, rfl, ap, _, 1, _, rfl, rfl, sameT Sq sap, rfl, .ref th, .ref ta, .ref t, z, r, (g : Int), rs, ii, named, asked, b, row, rfl, dH _ (R2.trans Sq), dpSame (R2.trans Sq) _ _ htv3, dA _ Sq, hrow, rowOf.1, by omega, fun q2 hq2 => ?_⟩
          obtain ⟨o1, o2, o3, o4, o5, o6, o7, o8⟩ := behind _ Sq (.inl eA) e q2 hq2
          exact ⟨_, _, _, _, q2, _, _, _, rfl, o1, o2, o3, o4, o5, o6, o7, o8⟩
        · rw [decide_eq_false hb]
          rw [if_neg (fun z' => hb z'.2)] at e
          rw [ePl, e] at k
          exact ⟨_, rfl, iteT (k _ ((S23.trans R2).trans Sq))⟩
      | some sv =>
        rw [eA] at hax
        have ha : a = sv := hax
        obtain ⟨s0, sz⟩ := small sv eA
        rw [decide_eq_false (show ¬ V.int a = V.int (-1) by intro q; have := V.int.inj q; omega)]
        refine iteF ⟨_, rfl, _, rfl, _, rfl, _, rfl, ap, _, 0, _, rfl, rfl, sap, rfl, th, tc, z, r, a, g, g + i, cs, rfl, sameT R2 hth3, sameT R2 hx3, by omega, mlt, ld, g50, fun out q J6 so lo S6 h6 => ?_⟩
        refine ⟨_, rfl, ap, _, 1, _, rfl, rfl, sameT S6 sap, rfl, _, rfl, q, _, rfl, .inr (SqT.of h6), rfl, flat_ints _, ?_⟩
        rw [if_pos rfl, inV_ints]
        have e : stepB z row named asked cs g (g + i) (td.drop (i + 1)).isEmpty (.tuple [.int a, .int b]) = if b ∈ ahead a (headsI cs (g + i) g) then .inl b else .inr false := by
          rw [stepE, eA]
          show (if sv = cs.getD (g + i) 0 then _ else if a = sv ∧ b ∈ ahead sv (headsI cs (g + i) g) then _ else _) = _
          rw [cgd, if_neg (fun q => hs (ha.trans q)), ← ha]
          by_cases hb : b ∈ ahead a (headsI cs (g + i) g)
          · rw [if_pos ⟨rfl, hb⟩, if_pos hb]
          · rw [if_neg (fun q => hb q.2), if_neg hb]
        have hm : out.contains b = decide (b ∈ ahead a (headsI cs (g + i) g)) := by
          rw [List.contains_eq_mem, Bool.eq_iff_iff, decide_eq_true_iff, decide_eq_true_iff]
          exact so.2 b
        rw [hm]
        by_cases hb : b ∈ ahead a (headsI cs (g + i) g)
        · rw [decide_eq_true hb]
          rw [if_pos hb] at e
          refine ⟨_, rfl, iteF ?_⟩
          refine ⟨_, rfl, _, rfl, _, rfl, _, rfl, ap, _, 1, _, rfl, rfl, sameT S6 sap, rfl, .ref th, .ref ta, .ref t, z, r, (g : Int), rs, ii, named, asked, b, row, rfl, dH _ (R2.trans S6), dpSame (R2.trans S6) _ _ htv3, dA _ S6, hrow, rowOf.1, by omega, fun q2 hq2 => ?_⟩
          obtain ⟨o1, o2, o3, o4, o5, o6, o7, o8⟩ := behind _ S6 (.inr (inC b (heads_in mlt (ahead_mem hb)))) e q2 hq2
          exact ⟨_, _, _, _, q2, _, _, _, rfl, o1, o2, o3, o4, o5, o6, o7, o8⟩
        · rw [decide_eq_false hb]
          rw [if_neg hb] at e
          rw [ePl, e] at k
          exact ⟨_, rfl, iteT (k _ ((S23.trans R2).trans S6))⟩
    · rintro σ J ⟨y6, y7, y8, y9, t, ii, named, asked, rfl, hq, hii, nm0, nm1, as0, as1, R, eP⟩
      rw [eP, List.drop_of_length_le (by omega)] at k
      exact k J (S23.trans R)
end

/-! ### a house with a table -/
def sp_both (K : PySem.W.Frag) : Sp := fun vs H Q _ => ∃ (p : Addr) (room : Int) (n : Nat), vs = [.ref p, .int room] ∧ 16 ≤ room ∧ room ≤ 1000 ∧ Deck K H p n ∧ n < 700000 ∧
  ∀ (z r : Int) (g : Nat) (rs : List Row) (th t : Addr) (v : V) (J : Hp) (n' : Nat), HouseOf room z r (g : Int) → TableOf 6 rs → J th = some (.tup [.int z, .int r, .int (g : Int)]) → J t = some (.tup [.ref th, v]) → Dt K p J v (tableD rs) → n' ≤ n + 23 → Deck K J p n' → Keep p H J → Q (.ref t) J
section
variable {P : Program} {w : World} {K : PySem.W.Frag} {mg : Str → Option Value} {base : Heap}
theorem ok_both (T : Txt K mg) : FnOk P w K mg base CX0 4 T.a_both T.d_both ["_law_deck_here", "_law_room"] (sp_both K) := by
  have G_house : FnOk P w K mg base CX0 3 T.a_house T.d_house ["_law_deck_here", "_law_room"] (sp_house K) := ok_house T
  have G_table : FnOk P w K mg base CX0 3 T.a_table T.d_table ["_law_deck_here", "_law_room"] (sp_table K) := ok_table T
  have G_power : FnOk P w K mg base CX0 1 T.a_power T.d_power ["_law_servers", "_law_lag"] sp_power := ok_power T
  refine T.F_both.ok sc_both (fun vs H Q E h => ?_) (fun cdv A outer s H vs Q E hr h => ?_)
  · obtain ⟨p, room, n, rfl, _⟩ := h
    rfl
  · obtain ⟨p, room, n, rfl, r1, r2, D, hn, k⟩ := h
    refine ⟨_, (pss_cons (ps_set (i := 2) sc_both.nd rfl (Or.inl rfl) (pe_call G_house (hr.mono (by omega)) (by rfl) T.g_house T.F_house.kp T.b_house .nil pass0 (pa_cons (pv 0) (pa_cons (pv 1) pa_nil))))
      (pss_one (ps_ret (pe_tup (pa_cons (pv 2) (pa_cons (pe_call G_table (hr.mono (by omega)) (by rfl) T.g_table T.F_table.kp T.b_table .nil pass0 (pa_cons (pv 0) (pa_cons (pe_callB (id := "max") (call_max2 rfl) (by rfl) T.m_max (by decide +kernel) (pa_cons pe_int (pa_cons (pe_callB (id := "min") (call_min2 rfl) (by rfl) T.m_min (by decide +kernel) (pa_cons pe_int (pa_cons (pe_op op_fdivN (pv 1) (pe_call G_power (hr.mono (by omega)) (by rfl) T.g_power T.F_power.kp T.b_power .nil pass0 (pa_cons (pe_ix ix_tup (pv 2) pe_int (fun _ _ => rfl)) (pa_cons (pe_ix ix_tup (pv 2) pe_int (fun _ _ => rfl)) pa_nil)))) pa_nil))) pa_nil))) pa_nil))) pa_nil)))))), ?_⟩
    refine ⟨_, rfl, _, rfl, p, room, n, rfl, by omega, D, by omega, fun z r g0 th J1 hH ht _ D1 K1 => ?_⟩
    have th0 : th ≠ p := D1.ne_tup ht
    obtain ⟨z2, z4, q1, q6, gg0, gg3, hp⟩ := id hH
    obtain ⟨g, rfl⟩ : ∃ g : Nat, g0 = (g : Int) := ⟨g0.toNat, (Int.toNat_of_nonneg gg0).symm⟩
    have pp := pow_pos_int (show 0 < z by omega) ((g : Int) + 1).toNat
    refine ⟨_, rfl, _, rfl, _, rfl, _, rfl, th, _, 0, _, rfl, rfl, SqT.of ht, rfl, _, rfl, th, _, 2, _, rfl, rfl, SqT.of ht, rfl, z, (g : Int), rfl, by omega, by omega, by omega, by omega, ?_⟩
    generalize hpw : z ^ ((g : Int) + 1).toNat = pw at *
    refine ⟨_, _, rfl, rfl, ⟨by omega, by omega⟩, _, _, rfl, _, _, rfl, ?_⟩
    obtain ⟨x, hx, x1, x6⟩ : ∃ x : Int, x = (if (if room.fdiv pw < 6 then room.fdiv pw else 6) > 1 then (if room.fdiv pw < 6 then room.fdiv pw else 6) else 1) ∧ 1 ≤ x ∧ x ≤ 6 := ⟨_, rfl, by split <;> (try split) <;> omega, by split <;> (try split) <;> omega⟩
    rw [← hx]
    refine ⟨p, x, n + 4, rfl, x1, by omega, D1, by omega, fun rs v J2 n2 hT dT hn2 D2 K2 => ⟨by show 2 ≤ sizeLine; decide, fun t ht' => ?_⟩⟩
    obtain ⟨t1, t2, t3⟩ := hT
    exact k z r g rs th t v _ n2 ⟨z2, z4, q1, q6, gg0, gg3, by rw [hpw]; exact hp⟩ ⟨t1, by omega, t3⟩ (same_new ht' _ _ (K2.at th0 ht)) upd_same ((Keep.new ht').dt dT) (by omega) (D2.put ht') ((K1.trans K2).trans (Keep.new ht'))
end

/-! ### a drawn play -/
def pairD (q : Int × Int) : PyData := .tuple [.int q.1, .int q.2]
def PairAt (J : Hp) (p F : Addr) (v : V) (q : Int × Int) : Prop := ∃ b : Addr, v = .ref b ∧ b ≠ p ∧ b ≠ F ∧ J b = some (.tup [.int q.1, .int q.2])
theorem pairs_dp {K : PySem.W.Frag} {H : Hp} {p F : Addr} : ∀ {vs : List V} {ps : List (Int × Int)}, Paired (PairAt H p F) vs ps → DpAll K (off p H) vs (ps.map pairD)
  | _, _, .nil => .nil
  | _, _, .cons ⟨b, e, b1, _, hb⟩ t => by
    subst e
    exact .cons (.tup (SqT.of (off_at b1 hb)) (.cons (.int _) (.cons (.int _) .nil))) (pairs_dp t)
theorem stepB_last {z : Int} {row : Row} {named asked : Int} {cs : List Int} {g m : Nat} {l l' : Bool} {d : PyData} {nm : Int} (h : stepB z row named asked cs g m l d = .inl nm) : stepB z row named asked cs g m l' d = .inl nm := by
  unfold stepB at h ⊢
  split at h
  · rename_i a b
    split at h
    · rename_i hab
      rw [if_pos hab]
      cases e : askN z row.1 named asked with
      | none =>
        rw [e] at h
        exact h
      | some s =>
        rw [e] at h
        simp only at h ⊢
        split at h
        · cases h
        · rename_i hs
          rw [if_neg hs]
          exact h
    · cases h
  · cases h
def sp_play (K : PySem.W.Frag) : Sp := fun vs H Q _ => ∃ (p th tc : Addr) (tv : V) (z r : Int) (g n : Nat) (rs : List Row) (cs : List Int), vs = [.ref p, .ref th, tv, .ref tc] ∧ H th = some (.tup [.int z, .int r, .int (g : Int)]) ∧ Dt K p H tv (tableD rs) ∧ H tc = some (.tup (cs.map V.int)) ∧ InZ z cs ∧ g < cs.length ∧ g < 50 ∧ cs.length ≤ 100 ∧
  (∀ row ∈ rs, RowOf (rs.length : Int) row) ∧ 0 < rs.length ∧ 2 ≤ z ∧ z ≤ 4 ∧ Deck K H p n ∧ n < 700000 ∧
  ∀ (b : Bool) (ps : List (Int × Int)) (fs : List V) (F t rt : Addr) (ii : Nat) (named asked : Int) (J : Hp) (n' : Nat), J rt = some (.tup [.ref F, .ref t, .bl b]) → J F = some (.lst fs) → F ≠ p → DpAll K (off p J) fs (ps.map pairD) → J t = some (.tup [.int (ii : Int), .int named, .int asked]) →
    ii < rs.length → 0 ≤ named → named < z → -1 ≤ asked → asked < z → 0 < ps.length → g + ps.length ≤ cs.length → (∀ q ∈ ps, -1 ≤ q.1 ∧ q.1 < z ∧ -1 ≤ q.2 ∧ q.2 < z) → playB z rs cs g g 0 0 (-1) (ps.map pairD) = true →
    (b = false → g + ps.length = cs.length ∧ ∀ rest, playB z rs cs g g 0 0 (-1) (ps.map pairD ++ rest) = playB z rs cs g (g + ps.length) ii named asked rest) → n' ≤ n + cs.length → Deck K J p n' → Keep p H J → Q (.ref rt) J
section
variable {P : Program} {w : World} {K : PySem.W.Frag} {mg : Str → Option Value} {base : Heap}
theorem ok_play (T : Txt K mg) : FnOk P w K mg base CX0 4 T.a_play T.d_play ["_law_deck_here", "_law_house_here", "_law_table_here", "_law_course_here"] (sp_play K) := by
  have G_asked : FnOk P w K mg base CX0 1 T.a_asked T.d_asked ["_law_house_here", "_law_table_here", "_law_asker"] (sp_lasked K) := ok_lasked T
  have G_later : FnOk P w K mg base CX0 2 T.a_later T.d_later ["_law_house_here", "_law_table_here", "_law_asker", "_law_name"] (sp_later K) := ok_later T
  have G_oneT : FnOk P w K mg base CX0 2 T.a_one T.d_one ["_law_deck_here", "_law_items"] (sp_oneT K) := ok_oneT T
  have G_names : FnOk P w K mg base CX0 1 T.a_names T.d_names ["_law_house_here", "_law_course_here", "_law_moment", "_law_server"] (sp_lnames K) := ok_lnames T
  refine T.F_play.ok sc_play (fun vs H Q E h => ?_) (fun cdv A outer s H vs Q E hr h => ?_)
  · obtain ⟨p, th, tc, tv, z, r, g, n, rs, cs, rfl, _⟩ := h
    rfl
  · obtain ⟨p, th, tc, tv, z, r, g, n, rs, cs, rfl, hth, hT, htc, inC, gl, g50, cl, hrs, r0, z2, z4, D, hn, k⟩ := h
    refine ⟨_, (pss_cons (ps_par (i := 4) (j := 5) (by rfl) sc_play.nd rfl rfl (by decide) rfl rfl (pa_cons (pe_tup (pa_cons pe_int (pa_cons pe_int (pa_cons (pe_un un_neg pe_int) pa_nil)))) (pa_cons (pe_lst pa_nil) pa_nil)) (by rfl))
      (pss_cons (ps_for PassesOwn.never rfl (pi_range2 (by rfl) T.m_range (pa_cons (pe_ix ix_tup (pv 1) pe_int (fun _ _ => rfl)) (pa_cons (pe_callB (id := "len") call_len_seq (by rfl) T.m_len (by decide +kernel) (pa_cons (pv 3) pa_nil)) pa_nil))) (pg_name (i := 6) sc_play.nd rfl (Or.inl rfl))
        (pss_cons (ps_set (i := 7) sc_play.nd rfl (Or.inl rfl) (pe_call G_asked (hr.mono (by omega)) (by rfl) T.g_asked T.F_asked.kp T.b_asked .nil pass0 (pa_cons (pv 1) (pa_cons (pv 2) (pa_cons (pv 4) pa_nil)))))
      (pss_cons (ps_if (pt_cmpR op_eq (pv 7) (pe_ix ix_tup (pv 3) (pv 6) (fun _ _ => rfl)) (nomark _))
        (pss_one (ps_ret (pe_tup (pa_cons (pe_op op_cat (pv 5) (pe_lst (pa_cons (pe_tup (pa_cons (pv 7) (pa_cons (pe_un un_neg pe_int) pa_nil))) pa_nil))) (pa_cons (pv 4) (pa_cons pe_bl pa_nil))))))
        pss_nil)
      (pss_cons (ps_set (i := 8) sc_play.nd rfl (Or.inl rfl) (pe_un un_neg pe_int))
      (Evl.pss_cut (ps_if (pt_cmpR op_ne (pv 7) (pe_un un_neg pe_int) (nomark _))
        (pss_one (ps_set (i := 8) sc_play.nd rfl (Or.inl rfl) (pe_call G_oneT (hr.mono (by omega)) (by rfl) T.g_one T.F_one.kp T.b_one .nil pass0 (pa_cons (pv 0) (pa_cons (pe_call G_names (hr.mono (by omega)) (by rfl) T.g_names T.F_names.kp T.b_names .nil pass0 (pa_cons (pv 1) (pa_cons (pv 3) (pa_cons (pv 6) (pa_cons (pv 7) pa_nil))))) pa_nil)))))
        pss_nil)
      (pss_cons (ps_expr (pe_bm PySem.F.plainAttrs_list PySem.F.slot_list_append PySem.F.type_list_append mt_append (pv 5) (pa_cons (pe_tup (pa_cons (pv 7) (pa_cons (pv 8) pa_nil))) pa_nil)))
      (pss_one (ps_set (i := 4) sc_play.nd rfl (Or.inl rfl) (pe_call G_later (hr.mono (by omega)) (by rfl) T.g_later T.F_later.kp T.b_later .nil pass0 (pa_cons (pv 1) (pa_cons (pv 2) (pa_cons (pv 4) (pa_cons (pv 8) pa_nil)))))))))))))
      (pss_one (ps_ret (pe_tup (pa_cons (pv 5) (pa_cons (pv 4) (pa_cons pe_bl pa_nil)))))))), ?_⟩
    have th0 : th ≠ p := D.ne_tup hth
    have tc0 : tc ≠ p := D.ne_tup htc
    have ll : (cs.map V.int).length = cs.length := List.length_map ..
    have dH : Dt K p H (.ref th) (houseT z r (g : Int)) := .tup (SqT.of (off_at th0 hth)) (.cons (.int z) (.cons (.int r) (.cons (.int (g : Int)) .nil)))
    obtain ⟨ta, txs, rfl, _, _, _⟩ := dp_table (dpSame off_in _ _ hT)
    refine ⟨1, rfl, by show 3 ≤ sizeLine; decide, fun t0 ht0 => ⟨Nat.zero_le _, fun F hF => ⟨_, _, rfl, ?_⟩⟩⟩
    have S1 := same_new (o := .tup [.int 0, .int 0, .int (-1)]) ht0
    have t0F : t0 ≠ F := fun e => by rw [← e, upd_same] at hF; cases hF
    have FH : H F = none := by rw [upd_ne t0F.symm] at hF; exact hF
    have h1 : upd (upd H t0 (.tup [.int 0, .int 0, .int (-1)])) F (.lst []) t0 = some (.tup [.int ((0 : Nat) : Int), .int 0, .int (-1)]) := by rw [upd_ne t0F]; exact upd_same
    have K1 : Keep p H (upd (upd H t0 (.tup [.int 0, .int 0, .int (-1)])) F (.lst [])) := Keep.of_same (S1.trans (same_new hF))
    have D1 : Deck K (upd (upd H t0 (.tup [.int 0, .int 0, .int (-1)])) F (.lst [])) p n := D.of_same (S1.trans (same_new hF))
    have FP : F ≠ p := D.ne_new FH
    have hF1 : upd (upd H t0 (.tup [.int 0, .int 0, .int (-1)])) F (.lst []) F = some (.lst []) := upd_same
    generalize upd (upd H t0 (.tup [.int 0, .int 0, .int (-1)])) F (.lst []) = J1 at *
    refine ⟨_, rfl, th, _, 2, _, rfl, rfl, SqT.of (K1.at th0 hth), rfl, _, rfl, tc, _, rfl, .inr (SqT.of (K1.at tc0 htc)), _, _, rfl, ⟨by omega, by omega, by omega, by omega⟩, ?_⟩
    rw [ll]
    refine for_range (lo := (g : Int)) (n := ((cs.length : Int) - (g : Int)).toNat) (fun i σ J => ∃ (y6 y7 y8 : Option V) (t : Addr) (ii : Nat) (named asked : Int) (ps : List (Int × Int)) (fs : List V) (n' : Nat), σ = [some (.ref p), some (.ref th), some (.ref ta), some (.ref tc), some (.ref t), some (.ref F), y6, y7, y8] ∧
      J t = some (.tup [.int (ii : Int), .int named, .int asked]) ∧ ii < rs.length ∧ 0 ≤ named ∧ named < z ∧ -1 ≤ asked ∧ asked < z ∧ ps.length = i ∧ fs.length = i ∧ J F = some (.lst fs) ∧ Paired (PairAt J p F) fs ps ∧ (∀ q ∈ ps, -1 ≤ q.1 ∧ q.1 < z ∧ -1 ≤ q.2 ∧ q.2 < z) ∧
      (∀ rest, playB z rs cs g g 0 0 (-1) (ps.map pairD ++ rest) = playB z rs cs g (g + i) ii named asked rest) ∧ n' ≤ n + i ∧ Deck K J p n' ∧ Keep p H J)
      ⟨none, none, none, t0, 0, 0, -1, [], [], n, rfl, h1, r0, by omega, by omega, by omega, by omega, rfl, rfl, hF1, .nil, fun q hq => (List.not_mem_nil hq).elim, fun rest => rfl, by omega, D1, K1⟩ ?_ ?_
    · rintro i σ J hi ⟨y6, y7, y8, t, ii, named, asked, ps, fs, n', rfl, hJt, hii, nm0, nm1, as0, as1, lp, lf, hJF, al, hps, eP, hn', DJ, KJ⟩
      have tp : t ≠ p := DJ.ne_tup hJt
      have tF : t ≠ F := fun e => by rw [e, hJF] at hJt; cases hJt
      have dA : Dt K p J (.ref t) (askerD ((ii : Int), named, asked)) := .tup (SqT.of (off_at tp hJt)) (.cons (.int _) (.cons (.int _) (.cons (.int _) .nil)))
      have dHJ := KJ.dt dH
      have dTJ := KJ.dt hT
      have tcJ := KJ.at tc0 htc
      have thJ := KJ.at th0 hth
      obtain ⟨row, hrow⟩ : ∃ row, rs[ii]? = some row := ⟨_, List.getElem?_eq_getElem hii⟩
      have rowOf := hrs row (List.mem_of_getElem? hrow)
      have small := ask_small (x := row.1) (asked := asked) (show 0 < z by omega) nm0 nm1
      have em : (g : Int) + (i : Int) = ((g + i : Nat) : Int) := by omega
      have mlt : g + i < cs.length := by omega
      have cat : atI (cs.map V.int) ((g : Int) + (i : Int)) = some (.int cs[g + i]) := by rw [em]; exact int_nat (List.getElem?_eq_getElem mlt)
      have cgd : cs.getD (g + i) 0 = cs[g + i] := by rw [List.getD_eq_getElem?_getD, List.getElem?_eq_getElem mlt]; rfl
      have cin := inC _ (List.getElem_mem mlt)
      refine ⟨_, rfl, _, rfl, _, rfl, .ref th, .ref ta, .ref t, z, r, (g : Int), rs, ii, named, asked, row, rfl, dpSame off_in _ _ dHJ, dpSame off_in _ _ dTJ, dpSame off_in _ _ dA, hrow, rowOf.1, by omega, ?_⟩
      have eO : V.int ((askN z row.1 named asked).getD (-1)) = V.int ((askN z row.1 named asked).getD (-1)) := rfl
      refine ⟨_, rfl, _, rfl, _, rfl, tc, _, _, _, rfl, rfl, SqT.of tcJ, cat, rfl, _, rfl, ?_⟩
      by_cases hs : (askN z row.1 named asked).getD (-1) = cs[g + i]
      · -- served
        rw [decide_eq_true (by rw [hs])]
        have eA : askN z row.1 named asked = some cs[g + i] := by
          cases e : askN z row.1 named asked with
          | none => rw [e] at hs; simp at hs; omega
          | some y => rw [e] at hs; simp at hs; rw [hs]
        rw [eA]
        refine iteT ⟨_, rfl, _, rfl, 1, rfl, by show 2 ≤ sizeLine; decide, fun q hq => ⟨by show 1 ≤ sizeLine; decide, fun l hl => ?_⟩⟩
        dsimp only [Option.getD_some] at hl ⊢
        have Sq := same_new (o := .tup [.int cs[g + i], .int (-1)]) hq
        have Sl := Sq.trans (same_new (o := .lst [.ref q]) hl)
        have hq2 : upd (upd J q (.tup [.int cs[g + i], .int (-1)])) l (.lst [.ref q]) q = some (.tup [.int cs[g + i], .int (-1)]) := same_new hl _ _ upd_same
        have hl2 : upd (upd J q (.tup [.int cs[g + i], .int (-1)])) l (.lst [.ref q]) l = some (.lst [.ref q]) := upd_same
        generalize upd (upd J q (.tup [.int cs[g + i], .int (-1)])) l (.lst [.ref q]) = J2 at *
        refine ⟨F, l, fs, [.ref q], rfl, rfl, Sl _ _ hJF, hl2, Nat.le_trans (by rw [List.length_singleton]; omega : _ ≤ 200) (by decide), fun F2 hF2 => ?_⟩
        have S3 := Sl.trans (same_new (o := .lst (fs ++ [.ref q])) hF2)
        have D3 : Deck K (upd J2 F2 (.lst (fs ++ [.ref q]))) p n' := DJ.of_same S3
        have F2p : F2 ≠ p := (DJ.of_same Sl).ne_new hF2
        have hF3 : upd J2 F2 (.lst (fs ++ [.ref q])) F2 = some (.lst (fs ++ [.ref q])) := upd_same
        have hq3 : upd J2 F2 (.lst (fs ++ [.ref q])) q = some (.tup [.int cs[g + i], .int (-1)]) := same_new hF2 _ _ hq2
        generalize upd J2 F2 (.lst (fs ++ [.ref q])) = J3 at *
        refine ⟨_, rfl, by show 3 ≤ sizeLine; decide, fun rt hrt => ?_⟩
        have S4 := S3.trans (same_new (o := .tup [.ref F2, .ref t, .bl true]) hrt)
        have Sr := same_new (o := .tup [.ref F2, .ref t, .bl true]) hrt
        have qp : q ≠ p := D3.ne_tup hq3
        have hD : DpAll K (off p (upd J3 rt (.tup [.ref F2, .ref t, .bl true]))) (fs ++ [.ref q]) ((ps ++ [(cs[g + i], -1)]).map pairD) := by
          rw [List.map_append]
          refine dpAll_append (Keep.all (Keep.of_same S4) (pairs_dp al)) (.cons (.tup (SqT.of (off_at qp (Sr _ _ hq3))) (.cons (.int _) (.cons (.int _) .nil))) .nil)
        refine k true (ps ++ [(cs[g + i], -1)]) (fs ++ [.ref q]) F2 t rt ii named asked _ n' upd_same (Sr _ _ hF3) F2p hD (S4 _ _ hJt) hii nm0 nm1 as0 as1 (by rw [List.length_append, List.length_singleton]; omega) (by rw [List.length_append, List.length_singleton]; omega) ?_ ?_ (fun e => by cases e) (by omega) (D3.of_same Sr) (KJ.trans (Keep.of_same S4))
        · intro x hx
          rcases List.mem_append.mp hx with z' | z'
          · exact hps x z'
          · rw [List.mem_singleton.mp z']
            exact ⟨by show -1 ≤ cs[g + i]; omega, cin.2, by show (-1 : Int) ≤ -1; omega, by show (-1 : Int) < z; omega⟩
        · rw [List.map_append, eP]
          simp only [List.map_cons, List.map_nil, playB, hrow, List.isEmpty_nil]
          have e : stepB z row named asked cs g (g + i) true (pairD (cs[g + i], -1)) = .inr true := by
            simp only [stepB, pairD, eA, cgd]
            rw [if_pos ⟨by omega, by omega, by omega, by omega⟩, if_pos trivial]
            simp
          rw [e]
      · rw [decide_eq_false fun e => hs (V.int.inj e)]
        refine iteF ⟨1, rfl, ?_⟩
        -- the name
        refine ⟨fun σ' J' => ∃ (nm : Int) (n2 : Nat), σ' = [some (.ref p), some (.ref th), some (.ref ta), some (.ref tc), some (.ref t), some (.ref F), some (.int ((g : Int) + (i : Int))), some (.int ((askN z row.1 named asked).getD (-1))), some (.int nm)] ∧ n2 ≤ n' + 1 ∧ Deck K J' p n2 ∧ Keep p J J' ∧
          ((askN z row.1 named asked = none ∧ nm = -1) ∨ ∃ sv, askN z row.1 named asked = some sv ∧ nm ∈ ahead sv (headsI cs (g + i) g)), ?_, ?_⟩
        · refine ⟨_, rfl, 1, rfl, rfl, _, rfl, ?_⟩
          cases eA : askN z row.1 named asked with
          | none => exact iteNS rfl ⟨-1, n', rfl, by omega, DJ, Keep.refl p J, .inl ⟨rfl, rfl⟩⟩
          | some sv =>
            obtain ⟨s0, sz⟩ := small sv eA
            rw [show ((some sv : Option Int)).getD (-1) = sv from rfl]
            rw [decide_eq_false (show ¬ V.int sv = V.int (-1) by intro e; have := V.int.inj e; omega)]
            have ns : sv ≠ cs[g + i] := fun e => hs (by rw [eA]; exact e)
            refine iteT ⟨_, rfl, _, rfl, _, rfl, _, rfl, _, rfl, th, tc, z, r, sv, g, g + i, cs, rfl, SqT.of thJ, SqT.of tcJ, by omega, mlt, by omega, g50, fun out q J2 so lo S2 h2 => ?_⟩
            have o0 : 0 < out.length := by
              cases out with
              | nil =>
                have := (sorted_nil so).mp rfl
                rw [ahead_nil, cgd] at this
                exact absurd this.symm ns
              | cons _ _ => exact Nat.succ_pos _
            refine ⟨p, q, out.map V.int, n', rfl, SqT.of h2, by rw [List.length_map]; exact o0, by rw [List.length_map]; omega, DJ.of_same S2, by omega, fun i1 x J3 hx D3 K3 => ?_⟩
            obtain ⟨nm, hnm, rfl⟩ := int_of_at hx
            exact ⟨nm, n' + 1, rfl, by omega, D3, (Keep.of_same S2).trans K3, .inr ⟨sv, rfl, (so.2 nm).mp (List.mem_of_getElem? hnm)⟩⟩
        · rintro σ' J2 ⟨nm, n2, rfl, hn2, D2, K2, hnm⟩
          have hF2 := K2.at FP hJF
          refine ⟨_, rfl, .inl ⟨rfl, _, SqL.of hF2⟩, _, rfl, _, rfl, by show 2 ≤ sizeLine; decide, fun q hq => ?_⟩
          have Sq := same_new (o := .tup [.int ((askN z row.1 named asked).getD (-1)), .int nm]) hq
          have hq2 : upd J2 q (.tup [.int ((askN z row.1 named asked).getD (-1)), .int nm]) q = some (.tup [.int ((askN z row.1 named asked).getD (-1)), .int nm]) := upd_same
          have qF : q ≠ F := (ne_of_none hF2 hq).symm
          have qp : q ≠ p := D2.ne_new hq
          refine ⟨F, fs, _, rfl, rfl, Sq _ _ hF2, small1000 (by omega), ?_⟩
          have K3 : Keep p H (upd J2 q (.tup [.int ((askN z row.1 named asked).getD (-1)), .int nm])) := (KJ.trans K2).trans (Keep.of_same Sq)
          have D3 := D2.of_same Sq
          have Kq : Keep p J (upd J2 q (.tup [.int ((askN z row.1 named asked).getD (-1)), .int nm])) := K2.trans (Keep.of_same Sq)
          generalize upd J2 q (.tup [.int ((askN z row.1 named asked).getD (-1)), .int nm]) = J3 at *
          have K4 := K3.write (o := .lst (fs ++ [.ref q])) FH FP
          have D4 := D.write (o := .lst (fs ++ [.ref q])) FH K3 D3
          have hJt4 : upd J3 F (.lst (fs ++ [.ref q])) t = some (.tup [.int (ii : Int), .int named, .int asked]) := by rw [upd_ne tF]; exact Kq.at tp hJt
          have hF4 : upd J3 F (.lst (fs ++ [.ref q])) F = some (.lst (fs ++ [.ref q])) := upd_same
          have hq4 : upd J3 F (.lst (fs ++ [.ref q])) q = some (.tup [.int ((askN z row.1 named asked).getD (-1)), .int nm]) := by rw [upd_ne qF]; exact hq2
          have al4 : Paired (PairAt (upd J3 F (.lst (fs ++ [.ref q]))) p F) (fs ++ [.ref q]) (ps ++ [((askN z row.1 named asked).getD (-1), nm)]) := paired_snoc (Paired.mapP al fun v r ⟨c, e, c1, c2, c3⟩ => ⟨c, e, c1, c2, by rw [upd_ne c2]; exact Kq.at c1 c3⟩) ⟨q, rfl, qp, qF, hq4⟩
          generalize upd J3 F (.lst (fs ++ [.ref q])) = J4 at *
          have dA4 : Dt K p J4 (.ref t) (askerD ((ii : Int), named, asked)) := .tup (SqT.of (off_at tp hJt4)) (.cons (.int _) (.cons (.int _) (.cons (.int _) .nil)))
          have tl := nm
          refine ⟨_, rfl, _, rfl, _, rfl, _, rfl, .ref th, .ref ta, .ref t, z, r, (g : Int), rs, ii, named, asked, nm, row, rfl, dpSame off_in _ _ (K4.dt dH), dpSame off_in _ _ (K4.dt hT), dpSame off_in _ _ dA4, hrow, rowOf.1, by omega, fun t2 ht2 => ?_⟩
          have small2 : -1 ≤ (askN z row.1 named asked).getD (-1) ∧ (askN z row.1 named asked).getD (-1) < z ∧ -1 ≤ nm ∧ nm < z := by
            rcases hnm with ⟨e, rfl⟩ | ⟨sv, e, hm⟩
            · rw [e]; exact ⟨by decide, by show (-1 : Int) < z; omega, by decide, by omega⟩
            · have := small sv e
              have := inC nm (heads_in mlt (ahead_mem hm))
              rw [e]
              exact ⟨by show -1 ≤ sv; omega, by show sv < z; omega, by omega, by omega⟩
          obtain ⟨⟨u0, u1⟩, ⟨u2, u3⟩, u4, u5⟩ : (0 ≤ (nextA z row named asked nm).1 ∧ (nextA z row named asked nm).1 < (rs.length : Int)) ∧ (0 ≤ (nextA z row named asked nm).2.1 ∧ (nextA z row named asked nm).2.1 < z) ∧ -1 ≤ (nextA z row named asked nm).2.2 ∧ (nextA z row named asked nm).2.2 < z := by
            rcases hnm with ⟨h, _⟩ | ⟨sv, h, hm⟩
            · obtain ⟨_, w0, w1, _, _⟩ := rowOf
              have e : nextA z row named asked nm = (row.2.1, named, asked) := by unfold nextA; rw [h]
              rw [e]
              exact ⟨⟨w0, w1⟩, ⟨nm0, nm1⟩, as0, as1⟩
            · have := inC nm (heads_in mlt (ahead_mem hm))
              exact next_in rowOf (show 0 < z by omega) nm0 nm1 as0 as1 this.1 this.2
          have S5 := same_new (o := .tup [.int (nextA z row named asked nm).1, .int (nextA z row named asked nm).2.1, .int (nextA z row named asked nm).2.2]) ht2
          refine ⟨_, _, _, t2, (nextA z row named asked nm).1.toNat, (nextA z row named asked nm).2.1, (nextA z row named asked nm).2.2, ps ++ [((askN z row.1 named asked).getD (-1), nm)], fs ++ [.ref q], n2, rfl, by rw [upd_same, Int.toNat_of_nonneg u0], by omega, u2, u3, u4, u5, by rw [List.length_append, List.length_singleton, lp], by rw [List.length_append, List.length_singleton, lf], S5 _ _ hF4,
            Paired.mapP al4 fun v r ⟨c, e, c1, c2, c3⟩ => ⟨c, e, c1, c2, S5 _ _ c3⟩, ?_, ?_, by omega, D4.of_same S5, K4.trans (Keep.of_same S5)⟩
          · intro x hx
            rcases List.mem_append.mp hx with z' | z'
            · exact hps x z'
            · rw [List.mem_singleton.mp z']
              exact small2
          · intro rest
            rw [List.map_append, List.append_assoc, eP]
            simp only [List.map_cons, List.map_nil, List.cons_append, List.nil_append, playB, hrow]
            have e : stepB z row named asked cs g (g + i) rest.isEmpty (pairD ((askN z row.1 named asked).getD (-1), nm)) = .inl nm := by
              simp only [stepB, pairD]
              rw [if_pos ⟨small2.1, by omega, small2.2.2.1, by omega⟩]
              rcases hnm with ⟨e, rfl⟩ | ⟨sv, e, hm⟩
              · rw [e]; rfl
              · rw [e]
                have ns : ¬ sv = cs.getD (g + i) 0 := fun z' => hs (by rw [e, ← cgd, ← z']; rfl)
                show (if sv = cs.getD (g + i) 0 then _ else if sv = sv ∧ nm ∈ ahead sv (headsI cs (g + i) g) then _ else _) = _
                rw [if_neg ns, if_pos ⟨rfl, hm⟩]
            rw [e]
            rfl
    · rintro σ J ⟨y6, y7, y8, t, ii, named, asked, ps, fs, n', rfl, hJt, hii, nm0, nm1, as0, as1, lp, lf, hJF, al, hps, eP, hn', DJ, KJ⟩
      refine ⟨_, rfl, _, rfl, by show 3 ≤ sizeLine; decide, fun rt hrt => ?_⟩
      have Sr := same_new (o := .tup [.ref F, .ref t, .bl false]) hrt
      have li : ps.length = cs.length - g := by omega
      refine k false ps fs F t rt ii named asked _ n' upd_same (Sr _ _ hJF) FP (Keep.all (Keep.of_same Sr) (pairs_dp al)) (Sr _ _ hJt) hii nm0 nm1 as0 as1 (by omega) (by omega) hps ?_ (fun _ => ⟨by omega, fun rest => ?_⟩) (by omega) (DJ.of_same Sr) (KJ.trans (Keep.of_same Sr))
      · have := eP []
        rw [List.append_nil] at this
        rw [this]
        rfl
      · rw [eP, lp]
end

/-! ### stories as data -/
def storyT (cs : List Int) (ps : List (Int × Int)) : PyData := .tuple [.tuple (cs.map PyData.int), .tuple (ps.map pairD)]
def PairsIn (z : Int) (ps : List (Int × Int)) : Prop := ∀ q ∈ ps, -1 ≤ q.1 ∧ q.1 < z ∧ -1 ≤ q.2 ∧ q.2 < z
theorem dp_ints {K : PySem.W.Frag} {H : Hp} : ∀ {vs : List V} {ns : List Int}, DpAll K H vs (ns.map PyData.int) → vs = ns.map V.int
  | [], [], _ => rfl
  | _ :: _, _ :: ns, .cons (.int _) t => by rw [dp_ints (ns := ns) t]; rfl
theorem dt_ints {K : PySem.W.Frag} {p : Addr} {H : Hp} {v : V} {ns : List Int} (h : Dt K p H v (.tuple (ns.map PyData.int))) : ∃ a : Addr, v = .ref a ∧ SqT K H a (ns.map V.int) := by
  obtain ⟨a, xs, e, hx, al⟩ := h.get
  exact ⟨a, e, by rw [← dp_ints al]; exact hx⟩
theorem InZ.app {z : Int} {a b : List Int} (h : InZ z a) (k : InZ z b) : InZ z (a ++ b) := fun x hx => (List.mem_append.mp hx).elim (h x) (k x)
theorem InZ.one {z x : Int} (h : 0 ≤ x) (k : x < z) : InZ z [x] := fun y hy => by rw [List.mem_singleton.mp hy]; exact ⟨h, k⟩
theorem InZ.take {z : Int} {a : List Int} (h : InZ z a) (j : Nat) : InZ z (a.take j) := fun x hx => h x (List.mem_of_mem_take hx)
theorem InZ.drop {z : Int} {a : List Int} (h : InZ z a) (j : Nat) : InZ z (a.drop j) := fun x hx => h x (List.mem_of_mem_drop hx)
theorem PairsIn.app {z : Int} {a b : List (Int × Int)} (h : PairsIn z a) (k : PairsIn z b) : PairsIn z (a ++ b) := fun x hx => (List.mem_append.mp hx).elim (h x) (k x)
theorem PairsIn.one {z : Int} {q : Int × Int} (h : -1 ≤ q.1 ∧ q.1 < z ∧ -1 ≤ q.2 ∧ q.2 < z) : PairsIn z [q] := fun y hy => by rw [List.mem_singleton.mp hy]; exact h
theorem PairsIn.take {z : Int} {a : List (Int × Int)} (h : PairsIn z a) (j : Nat) : PairsIn z (a.take j) := fun x hx => h x (List.mem_of_mem_take hx)
theorem PairsIn.drop {z : Int} {a : List (Int × Int)} (h : PairsIn z a) (j : Nat) : PairsIn z (a.drop j) := fun x hx => h x (List.mem_of_mem_drop hx)
theorem cut_init {xs : List V} (h : 0 < xs.length) : cutV xs none (some (-1)) = xs.take (xs.length - 1) := by
  have e : HT.sIx xs.length xs.length (some (-1)) = xs.length - 1 := by
    show (if (-1 : Int) < 0 then ((-1 : Int) + (xs.length : Int)).toNat else min (-1 : Int).toNat xs.length) = xs.length - 1
    rw [if_pos (by decide)]
    omega
  unfold cutV
  rw [HT.sIx_none, e, List.drop_zero, Nat.sub_zero]
theorem put_len {α : Type} {l : List α} {x : α} {j : Nat} (h : j < l.length) : (l.take j ++ [x] ++ l.drop (j + 1)).length = l.length := by
  simp only [List.length_append, List.length_take, List.length_singleton, List.length_drop]
  omega

/-! ### a story put otherwise -/
def sp_otherw (K : PySem.W.Frag) : Sp := fun vs H Q _ => ∃ (p th : Addr) (v : V) (z r g : Int) (n : Nat) (cs : List Int) (ps : List (Int × Int)), vs = [.ref p, .ref th, v] ∧ H th = some (.tup [.int z, .int r, .int g]) ∧ Dt K p H v (storyT cs ps) ∧ 2 ≤ z ∧ z ≤ 4 ∧ InZ z cs ∧ PairsIn z ps ∧
  0 < cs.length ∧ 0 < ps.length ∧ cs.length ≤ 100 ∧ ps.length ≤ 100 ∧ Deck K H p n ∧ n < 700000 ∧
  ∀ (cs' : List Int) (ps' : List (Int × Int)) (v' : V) (J : Hp) (n' : Nat), Dt K p J v' (storyT cs' ps') → InZ z cs' → PairsIn z ps' → cs'.length ≤ cs.length + 1 → ps'.length ≤ ps.length + 1 → n' ≤ n + 5 → Deck K J p n' → Keep p H J → Q v' J
section
variable {P : Program} {w : World} {K : PySem.W.Frag} {mg : Str → Option Value} {base : Heap}
theorem ok_otherw (T : Txt K mg) : FnOk P w K mg base CX0 4 T.a_otherwise T.d_otherwise ["_law_deck_here", "_law_house_here", "_law_story"] (sp_otherw K) := by
  have G_draw : FnOk P w K mg base CX0 1 T.a_draw T.d_draw ["_law_deck_here", "_law_many"] (sp_draw K) := ok_draw T
  refine T.F_otherwise.ok sc_otherwise (fun vs H Q E h => ?_) (fun cdv A outer s H vs Q E hr h => ?_)
  · obtain ⟨p, th, v, z, r, g, n, cs, ps, rfl, _⟩ := h
    rfl
  · obtain ⟨p, th, v, z, r, g, n, cs, ps, rfl, hth, hv, z2, z4, inC, inP, c0, p0, c1, p1, D, hn, k⟩ := h
    refine ⟨_, (pss_cons (ps_asg (pv 2) (pg_tup (by rfl) (pgs_cons (pg_name (i := 3) sc_otherwise.nd rfl (Or.inl rfl)) (pgs_cons (pg_name (i := 4) sc_otherwise.nd rfl (Or.inl rfl)) pgs_nil))))
      (pss_cons (ps_par (i := 5) (j := 6) (by rfl) sc_otherwise.nd rfl rfl (by decide) rfl rfl (pa_cons (pe_call G_draw (hr.mono (by omega)) (by rfl) T.g_draw T.F_draw.kp T.b_draw .nil pass0 (pa_cons (pv 0) (pa_cons pe_int pa_nil))) (pa_cons (pe_call G_draw (hr.mono (by omega)) (by rfl) T.g_draw T.F_draw.kp T.b_draw .nil pass0 (pa_cons (pv 0) (pa_cons (pe_callB (id := "len") call_len_seq (by rfl) T.m_len (by decide +kernel) (pa_cons (pv 4) pa_nil)) pa_nil))) pa_nil)) (by rfl))
      (pss_cons (ps_asg (pe_ix ix_tup (pv 4) (pv 6) (fun _ _ => rfl)) (pg_tup (by rfl) (pgs_cons (pg_name (i := 7) sc_otherwise.nd rfl (Or.inl rfl)) (pgs_cons (pg_name (i := 8) sc_otherwise.nd rfl (Or.inl rfl)) pgs_nil))))
      (pss_cons (ps_if (pt_cmpR op_lt (pv 5) pe_int (nomark _))
        (pss_cons (ps_set (i := 9) sc_otherwise.nd rfl (Or.inl rfl) (pe_lst (pa_cons (pe_tup (pa_cons (pe_op op_sub (pe_call G_draw (hr.mono (by omega)) (by rfl) T.g_draw T.F_draw.kp T.b_draw .nil pass0 (pa_cons (pv 0) (pa_cons (pe_op op_add (pe_ix ix_tup (pv 1) pe_int (fun _ _ => rfl)) pe_int) pa_nil))) pe_int) (pa_cons (pv 8) pa_nil))) (pa_cons (pe_tup (pa_cons (pv 7) (pa_cons (pe_op op_sub (pe_call G_draw (hr.mono (by omega)) (by rfl) T.g_draw T.F_draw.kp T.b_draw .nil pass0 (pa_cons (pv 0) (pa_cons (pe_op op_add (pe_ix ix_tup (pv 1) pe_int (fun _ _ => rfl)) pe_int) pa_nil))) pe_int) pa_nil))) pa_nil))))
      (pss_one (ps_set (i := 4) sc_otherwise.nd rfl (Or.inl rfl) (pe_op op_catS (pe_op op_catS (pe_slice sl_tupS (pv 4) po_none (po_some (pv 6))) (pe_tup (pa_cons (pe_ix ix_list (pv 9) (pv 5) (fun _ _ => rfl)) pa_nil))) (pe_slice sl_tupS (pv 4) (po_some (pe_op op_add (pv 6) pe_int)) po_none)))))
        (pss_one (ps_if (pt_cmpR op_eq (pv 5) pe_int (nomark _))
        (pss_cons (ps_set (i := 10) sc_otherwise.nd rfl (Or.inl rfl) (pe_call G_draw (hr.mono (by omega)) (by rfl) T.g_draw T.F_draw.kp T.b_draw .nil pass0 (pa_cons (pv 0) (pa_cons (pe_callB (id := "len") call_len_seq (by rfl) T.m_len (by decide +kernel) (pa_cons (pv 3) pa_nil)) pa_nil))))
      (pss_one (ps_set (i := 3) sc_otherwise.nd rfl (Or.inl rfl) (pe_op op_catS (pe_op op_catS (pe_slice sl_tupS (pv 3) po_none (po_some (pv 10))) (pe_tup (pa_cons (pe_call G_draw (hr.mono (by omega)) (by rfl) T.g_draw T.F_draw.kp T.b_draw .nil pass0 (pa_cons (pv 0) (pa_cons (pe_ix ix_tup (pv 1) pe_int (fun _ _ => rfl)) pa_nil))) pa_nil))) (pe_slice sl_tupS (pv 3) (po_some (pe_op op_add (pv 10) pe_int)) po_none)))))
        (pss_one (ps_if (pt_cmpR op_eq (pv 5) pe_int (nomark _))
        (pss_one (ps_par (i := 3) (j := 4) (by rfl) sc_otherwise.nd rfl rfl (by decide) rfl rfl (pa_cons (pe_op op_catS (pv 3) (pe_tup (pa_cons (pe_ix ix_tup (pv 3) (pe_un un_neg pe_int) (fun _ _ => rfl)) pa_nil))) (pa_cons (pe_op op_catS (pv 4) (pe_tup (pa_cons (pe_ix ix_tup (pv 4) (pv 6) (fun _ _ => rfl)) pa_nil))) pa_nil)) (by rfl)))
        (pss_one (ps_if (pt_cmpR op_eq (pv 5) pe_int (nomark _))
        (pss_one (ps_par (i := 3) (j := 4) (by rfl) sc_otherwise.nd rfl rfl (by decide) rfl rfl (pa_cons (pe_slice sl_tupS (pv 3) po_none (po_some (pe_un un_neg pe_int))) (pa_cons (pe_slice sl_tupS (pv 4) po_none (po_some (pe_un un_neg pe_int))) pa_nil)) (by rfl)))
        (pss_one (ps_set (i := 3) sc_otherwise.nd rfl (Or.inl rfl) (pe_op op_catS (pv 3) (pe_op op_repFew (pe_tup (pa_cons (pe_call G_draw (hr.mono (by omega)) (by rfl) T.g_draw T.F_draw.kp T.b_draw .nil pass0 (pa_cons (pv 0) (pa_cons (pe_ix ix_tup (pv 1) pe_int (fun _ _ => rfl)) pa_nil))) pa_nil)) (pe_call G_draw (hr.mono (by omega)) (by rfl) T.g_draw T.F_draw.kp T.b_draw .nil pass0 (pa_cons (pv 0) (pa_cons pe_int pa_nil))))))))))))))
      (pss_one (ps_ret (pe_tup (pa_cons (pv 3) (pa_cons (pv 4) pa_nil))))))))), ?_⟩
    have th0 : th ≠ p := D.ne_tup hth
    obtain ⟨sv, sx, rfl, hsv, hsal⟩ := hv.get
    obtain ⟨vc, vp, rfl, hvc, hvp⟩ : ∃ vc vp, sx = [vc, vp] ∧ Dt K p H vc (.tuple (cs.map PyData.int)) ∧ Dt K p H vp (.tuple (ps.map pairD)) := by
      cases hsal with
      | cons a t =>
        cases t with
        | cons b t =>
          cases t
          exact ⟨_, _, rfl, a, b⟩
    obtain ⟨tc, rfl, htc⟩ := dt_ints hvc
    obtain ⟨tp, xp, rfl, htp, hpal⟩ := hvp.get
    have lp : xp.length = ps.length := by rw [dpAll_len hpal, List.length_map]
    have ll : (cs.map V.int).length = cs.length := List.length_map ..
    have K0 : SqT K H sv [.ref tc, .ref tp] := hsv
    have C0 : SqT K H tc (cs.map V.int) := htc
    have P0 : SqT K H tp xp := htp
    have big : ∀ {q : Nat}, q ≤ 9000 → q ≤ sizeLine := fun h => Nat.le_trans h (by decide)
    refine ⟨_, rfl, sv, _, rfl, K0, rfl, _, _, rfl, _, _, rfl, rfl, ?_⟩
    refine ⟨_, rfl, p, 6, n, rfl, by decide, by decide, D, by omega, fun srt J1 s0 s6 D1 K1 => ?_⟩
    have ofP : ∀ {J M : Hp} {a : Addr} {xs : List V} {m : Nat}, Deck K J p m → Keep p J M → SqT K J a xs → SqT K M a xs := fun D k h => by
      obtain ⟨_, _, _, _, hp1, _⟩ := id D
      exact sameT off_in (sameT k.s (tup_off hp1 h))
    refine ⟨_, rfl, _, rfl, tp, xp, rfl, .inr (ofP D K1 P0), p, _, n + 1, rfl, by omega, by omega, D1, by omega, fun sp0 J2 sp1 sp2 D2 K2 => ⟨_, _, rfl, ?_⟩⟩
    obtain ⟨j, rfl⟩ : ∃ j : Nat, sp0 = (j : Int) := ⟨sp0.toNat, (Int.toNat_of_nonneg sp1).symm⟩
    have hj : j < ps.length := by omega
    have K12 := K1.trans K2
    have C2 := ofP D K12 C0
    have P2 := ofP D K12 P0
    have al2 := K12.all hpal
    obtain ⟨xj, hxj⟩ : ∃ xj, xp[j]? = some xj := ⟨_, List.getElem?_eq_getElem (by omega)⟩
    obtain ⟨dj', hdj, xdj⟩ := dpAll_get al2 hxj
    obtain ⟨⟨qs, qn⟩, hq, rfl⟩ : ∃ q, ps[j]? = some q ∧ dj' = pairD q := by
      rw [List.getElem?_map] at hdj
      cases e : ps[j]? with
      | none => rw [e] at hdj; cases hdj
      | some q => rw [e] at hdj; exact ⟨q, rfl, (Option.some.inj hdj).symm⟩
    obtain ⟨ta, rfl, hta⟩ := dp_two (dpSame off_in _ _ xdj)
    have inq := inP (qs, qn) (List.mem_of_getElem? hq)
    have hth2 := K12.at th0 hth
    have H2h : ∀ {M m}, Deck K J2 p m → Keep p J2 M → SqT K M th [.int z, .int r, .int g] := fun D k => ofP D k (SqT.of hth2)
    refine ⟨_, rfl, _, rfl, tp, xp, (j : Int), _, rfl, rfl, P2, atI_nat hxj, ta, _, rfl, hta, rfl, _, _, rfl, _, _, rfl, rfl, ?_⟩
    have fin : ∀ {cs' : List Int} {ps' : List (Int × Int)} {tc' tp' R : Addr} {xs' : List V} {J : Hp} {n' : Nat}, J R = none → SqT K J tc' (cs'.map V.int) → SqT K J tp' xs' → DpAll K (off p J) xs' (ps'.map pairD) → InZ z cs' → PairsIn z ps' → cs'.length ≤ cs.length + 1 → ps'.length ≤ ps.length + 1 →
        n' ≤ n + 5 → Deck K J p n' → Keep p H J → Q (.ref R) (upd J R (.tup [.ref tc', .ref tp'])) := fun {cs' ps' _ _ _ _ _ n'} gR h1 h2 al i1 i2 l1 l2 nn D' K' =>
      k cs' ps' _ _ n' (dt_tup (D'.ne_new gR) gR (.cons (dt_of D' h1 (ints_dp cs')) (.cons (dt_of D' h2 al) .nil))) i1 i2 l1 l2 nn (D'.put gR) (K'.trans (Keep.new gR))
    have ct : cutV xp none (some (j : Int)) = xp.take j := cut_to xp j (by omega)
    have cf : cutV xp (some ((j : Int) + 1)) none = xp.drop (j + 1) := cut_from xp (j + 1) (by omega)
    have tl : (xp.take j).length ≤ 100 := by rw [List.length_take]; omega
    have dl : (xp.drop (j + 1)).length ≤ 100 := by rw [List.length_drop]; omega
    refine ⟨_, rfl, _, _, rfl, rfl, _, rfl, ite2 (fun hs => ?_) (fun hs => ?_)⟩
    · refine ⟨_, rfl, _, rfl, th, _, 0, _, rfl, rfl, H2h D2 (Keep.refl p J2), rfl, _, _, rfl, rfl, p, z + 1, n + 2, rfl, by omega, by omega, D2, by omega, fun x J3 x0 x1 D3 K3 => ⟨_, _, rfl, rfl, _, rfl, by show 2 ≤ sizeLine; decide, fun u1 g1 => ?_⟩⟩
      have K31 := K3.trans (Keep.new g1 (o := .tup [.int (x - 1), .int qn]))
      have D31 := D3.put g1 (o := .tup [.int (x - 1), .int qn])
      refine ⟨_, rfl, _, rfl, _, rfl, th, _, 0, _, rfl, rfl, H2h D2 K31, rfl, _, _, rfl, rfl, p, z + 1, n + 3, rfl, by omega, by omega, D31, by omega, fun y J4 y0 y1 D4 K4 => ⟨_, _, rfl, rfl, by show 2 ≤ sizeLine; decide, fun u2 g2 => ?_⟩⟩
      refine ⟨by show 2 ≤ sizeLine; decide, fun L gL => ?_⟩
      have D42 := D4.put g2 (o := .tup [.int qs, .int (y - 1)])
      have K42 := K4.trans (Keep.new g2 (o := .tup [.int qs, .int (y - 1)]))
      have D43 := D42.put gL (o := .lst [.ref u1, .ref u2])
      have KM : Keep p J2 (upd (upd J4 u2 (.tup [.int qs, .int (y - 1)])) L (.lst [.ref u1, .ref u2])) := (K31.trans K42).trans (Keep.new gL)
      have a1 : upd (upd J4 u2 (.tup [.int qs, .int (y - 1)])) L (.lst [.ref u1, .ref u2]) u1 = some (.tup [.int (x - 1), .int qn]) := (K42.trans (Keep.new gL)).at (D3.ne_new g1) upd_same
      have a2 : upd (upd J4 u2 (.tup [.int qs, .int (y - 1)])) L (.lst [.ref u1, .ref u2]) u2 = some (.tup [.int qs, .int (y - 1)]) := same_new gL _ _ upd_same
      have aL : upd (upd J4 u2 (.tup [.int qs, .int (y - 1)])) L (.lst [.ref u1, .ref u2]) L = some (.lst [.ref u1, .ref u2]) := upd_same
      show gName 9 _ _ (upd (upd J4 u2 (.tup [.int qs, .int (y - 1)])) L (.lst [.ref u1, .ref u2])) _
      generalize upd (upd J4 u2 (.tup [.int qs, .int (y - 1)])) L (.lst [.ref u1, .ref u2]) = M at *
      obtain ⟨u, q, eu, hu, inq'⟩ : ∃ (u : Addr) (q : Int × Int), atI [V.ref u1, V.ref u2] srt = some (.ref u) ∧ M u = some (.tup [.int q.1, .int q.2]) ∧ (-1 ≤ q.1 ∧ q.1 < z ∧ -1 ≤ q.2 ∧ q.2 < z) := by
        have hs' : srt < 2 := by simpa using hs
        obtain rfl | rfl : srt = 0 ∨ srt = 1 := by omega
        · exact ⟨u1, (x - 1, qn), rfl, a1, by show -1 ≤ x - 1; omega, by show x - 1 < z; omega, inq.2.2⟩
        · exact ⟨u2, (qs, y - 1), rfl, a2, inq.1, inq.2.1, by show -1 ≤ y - 1; omega, by show y - 1 < z; omega⟩
      refine ⟨_, rfl, _, rfl, _, rfl, tp, xp, rfl, ofP D2 KM P2, fun t1 M1 c1 s1 => ?_⟩
      rw [ct] at c1
      refine ⟨_, rfl, _, rfl, L, _, srt, _, rfl, rfl, SqL.of (s1 _ _ aL), eu, by show 1 ≤ sizeLine; decide, fun t2 g3 => ?_⟩
      have s2 : Same M1 (upd M1 t2 (.tup [.ref u])) := same_new g3
      refine ⟨t1, t2, _, _, rfl, rfl, sameT s2 c1, SqT.of upd_same, big (by rw [List.length_singleton]; omega), fun t3 M3 c3 s3 => ?_⟩
      have S3 := (s1.trans s2).trans s3
      refine ⟨_, rfl, _, rfl, _, _, rfl, rfl, _, rfl, tp, xp, rfl, sameT S3 (ofP D2 KM P2), fun t4 M4 c4 s4 => ?_⟩
      rw [cf] at c4
      refine ⟨t3, t4, _, _, rfl, rfl, sameT s4 c3, c4, big (by rw [List.length_append, List.length_singleton]; omega), fun t5 M5 c5 s5 => ?_⟩
      have S5 := (S3.trans s4).trans s5
      have KS : Keep p M M5 := Keep.of_same S5
      have al5 := KS.all (KM.all al2)
      refine ⟨_, rfl, _, rfl, by show 2 ≤ sizeLine; decide, fun R gR => ?_⟩
      refine fin (cs' := cs) (ps' := ps.take j ++ [q] ++ ps.drop (j + 1)) gR (sameT S5 (ofP D2 KM C2)) c5 ?_ inC (((inP.take j).app (.one inq')).app (inP.drop (j + 1))) (by omega) (by rw [put_len hj]; omega) (by omega) (D43.of_same S5) ((K12.trans KM).trans KS)
      rw [List.map_append, List.map_append, List.map_take, List.map_drop]
      exact dpAll_append (dpAll_append (dpAll_take j al5) (.cons (.tup (SqT.of (off_at (fun e => by subst e; obtain ⟨_, _, _, _, hp, _⟩ := D43; rw [hu] at hp; cases hp) (S5 _ _ hu))) (.cons (.int _) (.cons (.int _) .nil))) .nil)) (dpAll_drop (j + 1) al5)
    -- a moment otherwise
    refine ⟨_, rfl, rfl, _, rfl, ite2 (fun _ => ?_) (fun _ => ?_)⟩
    · refine ⟨_, rfl, _, rfl, tc, _, rfl, .inr C2, p, _, n + 2, rfl, by rw [ll]; omega, by rw [ll]; omega, D2, by omega, fun pl' J3 pl0 pl1 D3 K3 => ?_⟩
      obtain ⟨i, rfl⟩ : ∃ i : Nat, pl' = (i : Int) := ⟨pl'.toNat, (Int.toNat_of_nonneg pl0).symm⟩
      have hi : i < cs.length := by omega
      have ctc : cutV (cs.map V.int) none (some (i : Int)) = (cs.take i).map V.int := by rw [cut_to _ i (by omega), List.map_take]
      have cfc : cutV (cs.map V.int) (some ((i : Int) + 1)) none = (cs.drop (i + 1)).map V.int := by
        have e := cut_from (cs.map V.int) (i + 1) (by omega)
        rw [List.map_drop]
        exact e
      refine ⟨_, rfl, _, rfl, _, rfl, tc, _, rfl, ofP D2 K3 C2, fun t1 J4 c1 s1 => ?_⟩
      rw [ctc] at c1
      have K31 := K3.trans (Keep.of_same s1)
      have D31 := D3.of_same s1
      refine ⟨_, rfl, _, rfl, th, _, 0, _, rfl, rfl, H2h D2 K31, rfl, p, z, n + 3, rfl, by omega, by omega, D31, by omega, fun x J5 x0 x1 D5 K5 => ⟨by show 1 ≤ sizeLine; decide, fun u1 g1 => ?_⟩⟩
      have s2 : Same J5 (upd J5 u1 (.tup [.int x])) := same_new g1
      refine ⟨t1, u1, _, _, rfl, rfl, sameT s2 (ofP D31 K5 c1), SqT.of upd_same, big (by rw [List.length_singleton, List.length_map, List.length_take]; omega), fun t3 M3 c3 s3 => ?_⟩
      have S3 := s2.trans s3
      refine ⟨_, rfl, _, rfl, _, _, rfl, rfl, _, rfl, tc, _, rfl, sameT S3 (ofP D2 (K31.trans K5) C2), fun t4 M4 c4 s4 => ?_⟩
      rw [cfc] at c4
      refine ⟨t3, t4, _, _, rfl, rfl, sameT s4 c3, c4, big (by simp only [List.length_append, List.length_map, List.length_take, List.length_singleton, List.length_drop]; omega), fun t5 M5 c5 s5 => ?_⟩
      have S5 := (S3.trans s4).trans s5
      have KS : Keep p J2 M5 := (K31.trans K5).trans (Keep.of_same S5)
      refine ⟨_, rfl, _, rfl, by show 2 ≤ sizeLine; decide, fun R gR => ?_⟩
      refine fin (cs' := cs.take i ++ [x] ++ cs.drop (i + 1)) (ps' := ps) (xs' := xp) gR (by rw [List.map_append, List.map_append]; exact c5) (ofP D2 KS P2) (KS.all al2) (((inC.take i).app (.one x0 x1)).app (inC.drop (i + 1))) inP (by rw [put_len hi]; omega) (by omega) (by omega) (D5.of_same S5) (K12.trans KS)
    -- one more of each
    obtain ⟨la, ela, _, la0, laz⟩ := last_in inC (List.ne_nil_of_length_pos c0)
    refine ⟨_, rfl, rfl, _, rfl, ite2 (fun _ => ?_) (fun _ => ?_)⟩
    · refine ⟨_, rfl, _, rfl, 1, rfl, tc, _, -1, _, rfl, rfl, C2, atI_last ela, by show 1 ≤ sizeLine; decide, fun u1 g1 => ?_⟩
      have s1 : Same J2 (upd J2 u1 (.tup [.int la])) := same_new g1
      refine ⟨tc, u1, _, _, rfl, rfl, sameT s1 C2, SqT.of upd_same, big (by rw [List.length_singleton, ll]; omega), fun t1 M1 c1 s2 => ?_⟩
      have S2 := s1.trans s2
      refine ⟨_, rfl, _, rfl, _, rfl, tp, xp, (j : Int), _, rfl, rfl, sameT S2 P2, atI_nat hxj, by show 1 ≤ sizeLine; decide, fun u2 g2 => ?_⟩
      have s3 : Same M1 (upd M1 u2 (.tup [.ref ta])) := same_new g2
      refine ⟨tp, u2, _, _, rfl, rfl, sameT (S2.trans s3) P2, SqT.of upd_same, big (by rw [List.length_singleton]; omega), fun t2 M2 c2 s4 => ⟨_, _, rfl, ?_⟩⟩
      have S4 := (S2.trans s3).trans s4
      have KS : Keep p J2 M2 := Keep.of_same S4
      refine ⟨_, rfl, _, rfl, by show 2 ≤ sizeLine; decide, fun R gR => ?_⟩
      refine fin (cs' := cs ++ [la]) (ps' := ps ++ [(qs, qn)]) gR (by rw [List.map_append]; exact sameT (s3.trans s4) c1) c2 (by rw [List.map_append]; exact dpAll_snoc (KS.all al2) (KS.dt xdj)) (inC.app (.one la0 laz)) (inP.app (.one inq)) (by rw [List.length_append, List.length_singleton]; omega) (by rw [List.length_append, List.length_singleton]; omega) (by omega) (D2.of_same S4) (K12.trans KS)
    -- one less of each
    refine ⟨_, rfl, rfl, _, rfl, ite2 (fun _ => ?_) (fun _ => ?_)⟩
    · refine ⟨_, rfl, 1, rfl, -1, rfl, tc, _, rfl, C2, fun t1 M1 c1 s1 => ?_⟩
      rw [cut_init (by omega), ll] at c1
      refine ⟨_, rfl, 1, rfl, -1, rfl, tp, _, rfl, sameT s1 P2, fun t2 M2 c2 s2 => ⟨_, _, rfl, ?_⟩⟩
      rw [cut_init (by omega), lp] at c2
      have S2 := s1.trans s2
      have KS : Keep p J2 M2 := Keep.of_same S2
      refine ⟨_, rfl, _, rfl, by show 2 ≤ sizeLine; decide, fun R gR => ?_⟩
      refine fin (cs' := cs.take (cs.length - 1)) (ps' := ps.take (ps.length - 1)) gR (by rw [List.map_take]; exact sameT s2 c1) c2 (by rw [List.map_take]; exact dpAll_take _ (KS.all al2)) (inC.take _) (inP.take _) (by rw [List.length_take]; omega) (by rw [List.length_take]; omega) (by omega) (D2.of_same S2) (K12.trans KS)
    -- a moment more, or none
    refine ⟨_, rfl, _, rfl, _, rfl, th, _, 0, _, rfl, rfl, H2h D2 (Keep.refl p J2), rfl, p, z, n + 2, rfl, by omega, by omega, D2, by omega, fun x J3 x0 x1 D3 K3 => ⟨by show 1 ≤ sizeLine; decide, fun u1 g1 => ?_⟩⟩
    have D31 := D3.put g1 (o := .tup [.int x])
    refine ⟨_, rfl, p, 2, n + 3, rfl, by decide, by decide, D31, by omega, fun y J4 y0 y1 D4 K4 => ?_⟩
    have K34 := (K3.trans (Keep.new g1 (o := .tup [.int x]))).trans K4
    have C4 := ofP D2 K34 C2
    have h1 : SqT K J4 u1 [.int x] := ofP D31 K4 (SqT.of upd_same)
    refine ⟨u1, y, _, rfl, rfl, h1, y0, by omega, fun _ => ?_, fun _ u2 g2 => ?_⟩
    · refine ⟨tc, u1, _, _, rfl, rfl, C4, h1, big (by rw [List.length_singleton, ll]; omega), fun t1 M1 c1 s1 => ?_⟩
      have KS : Keep p J2 M1 := K34.trans (Keep.of_same s1)
      refine ⟨_, rfl, _, rfl, by show 2 ≤ sizeLine; decide, fun R gR => ?_⟩
      exact fin (cs' := cs ++ [x]) (ps' := ps) gR (by rw [List.map_append]; exact c1) (ofP D2 KS P2) (KS.all al2) (inC.app (.one x0 x1)) inP (by rw [List.length_append, List.length_singleton]; omega) (by omega) (by omega) (D4.of_same s1) (K12.trans KS)
    · have s0 : Same J4 (upd J4 u2 (.tup [])) := same_new g2
      refine ⟨tc, u2, _, _, rfl, rfl, sameT s0 C4, SqT.of upd_same, big (by rw [ll]; show cs.length + 0 ≤ 9000; omega), fun t1 M1 c1 s1 => ?_⟩
      have S1 := s0.trans s1
      have KS : Keep p J2 M1 := K34.trans (Keep.of_same S1)
      refine ⟨_, rfl, _, rfl, by show 2 ≤ sizeLine; decide, fun R gR => ?_⟩
      exact fin (cs' := cs) (ps' := ps) gR (by rw [← List.append_nil (cs.map V.int)]; exact c1) (ofP D2 KS P2) (KS.all al2) inC inP (by omega) (by omega) (by omega) (D4.of_same S1) (K12.trans KS)
end

/-! ### texts of tuples of numbers tell the tuple -/
def tok (d : PyData) : List Nat := d.shown.cps.toList
def numC (c : Nat) : Prop := c = 45 ∨ (48 ≤ c ∧ c ≤ 57)
def endC (r : List Nat) : Prop := ∀ c t, r = c :: t → c = 44 ∨ c = 41
theorem app_toks (a b : Str) : (a ++ b).cps.toList = a.cps.toList ++ b.cps.toList := by
  show (a.cps ++ b.cps).toList = _
  exact Array.toList_append
theorem digits_range (m : Nat) : ∀ c ∈ (Nat.toDigits 10 m).map Char.toNat, 48 ≤ c ∧ c ≤ 57 := fun c hc => by
  obtain ⟨ch, hch, e⟩ := List.mem_map.mp hc
  have r := digit_range (Nat.isDigit_of_mem_toDigits (by decide) (by decide) hch)
  rw [← e]
  exact r
theorem digits_some (m : Nat) : (Nat.toDigits 10 m).map Char.toNat ≠ [] := fun e => by
  have h := toDigits_len_ge 10 m
  rw [List.map_eq_nil_iff.mp e] at h
  exact absurd h (by decide)
theorem tok_nat (m : Nat) : tok (.int (m : Int)) = (Nat.toDigits 10 m).map Char.toNat := PySem.W.KIN.signs_num m
theorem tok_neg (m : Nat) : tok (.int (Int.negSucc m)) = 45 :: (Nat.toDigits 10 (m + 1)).map Char.toNat := by
  show (Str.ofString (toString (Int.negSucc m))).cps.toList = _
  rw [signs_ofString]
  show ("-" ++ Nat.repr (m + 1)).toList.map Char.toNat = _
  rw [String.toList_append, Nat.toList_repr, List.map_append]
  rfl
theorem tok_num (i : Int) : ∀ c ∈ tok (.int i), numC c := by
  cases i with
  | ofNat m => exact fun c hc => .inr (digits_range m c (by rw [← tok_nat]; exact hc))
  | negSucc m =>
    rw [tok_neg]
    exact fun c hc => (List.mem_cons.mp hc).elim (fun e => .inl e) fun h => .inr (digits_range _ c h)
theorem tok_some (i : Int) : ∃ c t, tok (.int i) = c :: t ∧ numC c := by
  cases h : tok (.int i) with
  | nil =>
    exfalso
    cases i with
    | ofNat m => exact digits_some m ((tok_nat m).symm.trans h)
    | negSucc m => rw [tok_neg] at h; cases h
  | cons c t => exact ⟨c, t, rfl, tok_num i c (by rw [h]; exact List.mem_cons_self)⟩
theorem digits_inj {m n : Nat} (h : (Nat.toDigits 10 m).map Char.toNat = (Nat.toDigits 10 n).map Char.toNat) : m = n := by
  rw [← PySem.W.KIN.val_back m, ← PySem.W.KIN.val_back n, h]
theorem tok_inj {i j : Int} (h : tok (.int i) = tok (.int j)) : i = j := by
  have no : ∀ m n : Nat, (Nat.toDigits 10 m).map Char.toNat ≠ 45 :: (Nat.toDigits 10 n).map Char.toNat := fun m n e => by
    have := digits_range m 45 (by rw [e]; exact List.mem_cons_self)
    omega
  cases i with
  | ofNat m =>
    cases j with
    | ofNat n => exact congrArg Int.ofNat (digits_inj ((tok_nat m).symm.trans (h.trans (tok_nat n))))
    | negSucc n => exact absurd ((tok_nat m).symm.trans (h.trans (tok_neg n))) (no _ _)
  | negSucc m =>
    cases j with
    | ofNat n => exact absurd ((tok_nat n).symm.trans (h.symm.trans (tok_neg m))) (no _ _)
    | negSucc n =>
      have e := (tok_neg m).symm.trans (h.trans (tok_neg n))
      have := digits_inj (List.cons.inj e).2
      rw [show m = n by omega]
def restT : List PyData → List Nat
  | [] => [41]
  | d :: ds => 44 :: 32 :: (tok d ++ restT ds)
theorem join_rest : ∀ (x : PyData) (ds : List PyData), (Str.join ", " (PyData.shownAll (x :: ds))).cps.toList ++ [41] = tok x ++ restT ds
  | x, [] => rfl
  | x, y :: r => by
    have ih := join_rest y r
    rw [PyData.shownAll_cons, PyData.shownAll_cons] at *
    show (x.shown ++ (", " : Str) ++ Str.join ", " (y.shown :: PyData.shownAll r)).cps.toList ++ [41] = _
    rw [app_toks, app_toks, List.append_assoc, ih]
    show tok x ++ (Str.ofString ", ").cps.toList ++ _ = _
    rw [show (Str.ofString ", ").cps.toList = [44, 32] by decide, List.append_assoc]
    rfl
theorem tok_tup0 : tok (.tuple []) = [40, 41] := by decide
theorem tok_tup1 (x : PyData) : tok (.tuple [x]) = 40 :: (tok x ++ [44, 41]) := by
  show (tupleText [x.shown]).cps.toList = _
  unfold tupleText
  rw [app_toks, app_toks]
  show (Str.ofString "(").cps.toList ++ tok x ++ (Str.ofString ",)").cps.toList = _
  rw [show (Str.ofString "(").cps.toList = [40] by decide, show (Str.ofString ",)").cps.toList = [44, 41] by decide]
  rfl
theorem tok_tup2 (x y : PyData) (r : List PyData) : tok (.tuple (x :: y :: r)) = 40 :: (tok x ++ restT (y :: r)) := by
  show (tupleText (PyData.shownAll (x :: y :: r))).cps.toList = _
  unfold tupleText
  rw [if_neg (by simp [PyData.shownAll]), app_toks, app_toks, List.append_assoc]
  show (Str.ofString "(").cps.toList ++ ((Str.join ", " (PyData.shownAll (x :: y :: r))).cps.toList ++ (Str.ofString ")").cps.toList) = _
  rw [show (Str.ofString "(").cps.toList = [40] by decide, show (Str.ofString ")").cps.toList = [41] by decide, join_rest]
  rfl
mutual
def pureD : PyData → Bool
  | .int _ => true
  | .tuple ds => pureAll ds
  | _ => false
def pureAll : List PyData → Bool
  | [] => true
  | d :: ds => pureD d && pureAll ds
end
def purC (c : Nat) : Prop := numC c ∨ c = 40 ∨ c = 41 ∨ c = 44 ∨ c = 32
mutual
theorem pur_chars : ∀ d : PyData, pureD d = true → ∀ c ∈ tok d, purC c
  | .int i, _, c, hc => .inl (tok_num i c hc)
  | .tuple [], _, c, hc => by
    rw [tok_tup0] at hc
    simp only [List.mem_cons, List.not_mem_nil, or_false] at hc
    exact .inr (by omega)
  | .tuple [x], h, c, hc => by
    simp only [pureD, pureAll, Bool.and_eq_true] at h
    rw [tok_tup1] at hc
    simp only [List.mem_cons, List.mem_append, List.not_mem_nil, or_false] at hc
    rcases hc with e | e | e | e
    · exact .inr (by omega)
    · exact pur_chars x h.1 c e
    · exact .inr (by omega)
    · exact .inr (by omega)
  | .tuple (x :: y :: r), h, c, hc => by
    simp only [pureD, pureAll, Bool.and_eq_true] at h
    rw [tok_tup2] at hc
    rcases List.mem_cons.mp hc with e | e
    · exact .inr (by omega)
    · rcases List.mem_append.mp e with e | e
      · exact pur_chars x h.1 c e
      · exact pur_rest (y :: r) (by simp only [pureAll, Bool.and_eq_true]; exact h.2) c e
  | .none, h, _, _ => by cases h
  | .bool _, h, _, _ => by cases h
  | .str _, h, _, _ => by cases h
  | .list _, h, _, _ => by cases h
  | .dict _, h, _, _ => by cases h
theorem pur_rest : ∀ ds : List PyData, pureAll ds = true → ∀ c ∈ restT ds, purC c
  | [], _, c, hc => .inr (by rw [List.mem_singleton.mp hc]; omega)
  | d :: ds, h, c, hc => by
    simp only [pureAll, Bool.and_eq_true] at h
    simp only [restT, List.mem_cons, List.mem_append] at hc
    rcases hc with e | e | e | e
    · exact .inr (by omega)
    · exact .inr (by omega)
    · exact pur_chars d h.1 c e
    · exact pur_rest ds h.2 c e
end
theorem quote_in (x : Str) : ∃ c ∈ tok (.str x), c = 39 ∨ c = 34 := by
  refine ⟨reprQuote x, ?_, ?_⟩
  · show _ ∈ (reprText x).cps.toList
    unfold reprText
    exact Array.mem_toList_iff.mpr Array.mem_push_self
  · unfold reprQuote
    split <;> simp
mutual
theorem pur_back : ∀ d : PyData, (∀ c ∈ tok d, purC c) → pureD d = true
  | .int i, _ => rfl
  | .tuple [], _ => rfl
  | .tuple [x], h => by
    rw [tok_tup1] at h
    simp only [pureD, pureAll, Bool.and_true]
    exact pur_back x fun c hc => h c (List.mem_cons_of_mem _ (List.mem_append_left _ hc))
  | .tuple (x :: y :: r), h => by
    rw [tok_tup2] at h
    have a := pur_back x fun c hc => h c (List.mem_cons_of_mem _ (List.mem_append_left _ hc))
    have b := pur_backA (y :: r) fun c hc => h c (List.mem_cons_of_mem _ (List.mem_append_right _ hc))
    show (pureD x && pureAll (y :: r)) = true
    rw [a, b]
    rfl
  | .none, h => by
    have := h 78 (by decide)
    simp [purC, numC] at this
  | .bool b, h => by
    exfalso
    cases b
    · have := h 70 (by decide)
      simp [purC, numC] at this
    · have := h 84 (by decide)
      simp [purC, numC] at this
  | .str x, h => by
    exfalso
    obtain ⟨c, hc, e⟩ := quote_in x
    have := h c hc
    unfold purC numC at this
    omega
  | .list xs, h => by
    exfalso
    have := h 93 (by
      show _ ∈ (textFrom 0 "[" (PyData.shownAll xs) ++ ("]" : Str)).cps.toList
      rw [app_toks]
      exact List.mem_append_right _ (by decide))
    simp [purC, numC] at this
  | .dict kvs, h => by
    exfalso
    have := h 125 (by
      show _ ∈ (dictText (PyData.shownKv kvs)).cps.toList
      unfold dictText
      rw [app_toks]
      exact List.mem_append_right _ (by decide))
    simp [purC, numC] at this
theorem pur_backA : ∀ ds : List PyData, (∀ c ∈ restT ds, purC c) → pureAll ds = true
  | [], _ => rfl
  | d :: ds, h => by
    have a := pur_back d fun c hc => h c (List.mem_cons_of_mem _ (List.mem_cons_of_mem _ (List.mem_append_left _ hc)))
    have b := pur_backA ds fun c hc => h c (List.mem_cons_of_mem _ (List.mem_cons_of_mem _ (List.mem_append_right _ hc)))
    show (pureD d && pureAll ds) = true
    rw [a, b]
    rfl
end
theorem num_cut : ∀ {a b r r' : List Nat}, (∀ c ∈ a, numC c) → (∀ c ∈ b, numC c) → endC r → endC r' → a ++ r = b ++ r' → a = b ∧ r = r'
  | [], [], _, _, _, _, _, _, e => ⟨rfl, e⟩
  | [], c :: b, r, r', _, hb, hr, _, e => by
    have h1 := hr c (b ++ r') e
    have h2 := hb c List.mem_cons_self
    unfold numC at h2
    omega
  | c :: a, [], r, r', ha, _, _, hr', e => by
    have h1 := hr' c (a ++ r) e.symm
    have h2 := ha c List.mem_cons_self
    unfold numC at h2
    omega
  | c :: a, c' :: b, r, r', ha, hb, hr, hr', e => by
    obtain ⟨e1, e2⟩ := List.cons.inj e
    obtain ⟨e3, e4⟩ := num_cut (fun c hc => ha c (List.mem_cons_of_mem _ hc)) (fun c hc => hb c (List.mem_cons_of_mem _ hc)) hr hr' e2
    exact ⟨by rw [e1, e3], e4⟩
theorem pur_head {d : PyData} (h : pureD d = true) : ∃ c t, tok d = c :: t ∧ (numC c ∨ c = 40) := by
  cases d with
  | int i => obtain ⟨c, t, e, n⟩ := tok_some i; exact ⟨c, t, e, .inl n⟩
  | tuple ds =>
    match ds with
    | [] => exact ⟨40, [41], tok_tup0, .inr rfl⟩
    | [x] => exact ⟨40, _, tok_tup1 x, .inr rfl⟩
    | x :: y :: r => exact ⟨40, _, tok_tup2 x y r, .inr rfl⟩
  | _ => cases h
theorem end44 (t : List Nat) : endC (44 :: t) := fun c _ e => .inl (List.cons.inj e).1.symm
theorem end41 (t : List Nat) : endC (41 :: t) := fun c _ e => .inr (List.cons.inj e).1.symm
theorem restE (ds : List PyData) (r : List Nat) : endC (restT ds ++ r) := by
  cases ds with
  | nil => exact end41 _
  | cons d ds => exact end44 _
mutual
theorem par : ∀ (d e : PyData) (r r' : List Nat), pureD d = true → pureD e = true → endC r → endC r' → tok d ++ r = tok e ++ r' → d = e ∧ r = r'
  | .int i, e, r, r', _, he, hr, hr', h => by
    cases e with
    | int j =>
      obtain ⟨e1, e2⟩ := num_cut (tok_num i) (tok_num j) hr hr' h
      exact ⟨by rw [tok_inj e1], e2⟩
    | tuple es =>
      exfalso
      obtain ⟨c, t, e1, n⟩ := tok_some i
      obtain ⟨t', e2⟩ : ∃ t', tok (.tuple es) = 40 :: t' := by
        match es with
        | [] => exact ⟨_, tok_tup0⟩
        | [x] => exact ⟨_, tok_tup1 x⟩
        | x :: y :: q => exact ⟨_, tok_tup2 x y q⟩
      rw [e1, e2] at h
      have := (List.cons.inj h).1
      unfold numC at n
      omega
    | _ => cases he
  | .tuple ds, e, r, r', hd, he, hr, hr', h => by
    cases e with
    | int j =>
      exfalso
      obtain ⟨c, t, e1, n⟩ := tok_some j
      obtain ⟨t', e2⟩ : ∃ t', tok (.tuple ds) = 40 :: t' := by
        match ds with
        | [] => exact ⟨_, tok_tup0⟩
        | [x] => exact ⟨_, tok_tup1 x⟩
        | x :: y :: q => exact ⟨_, tok_tup2 x y q⟩
      rw [e1, e2] at h
      have := (List.cons.inj h).1
      unfold numC at n
      omega
    | tuple es =>
      obtain ⟨e1, e2⟩ := parT ds es r r' hd he h
      exact ⟨by rw [e1], e2⟩
    | _ => cases he
  | .none, _, _, _, h, _, _, _, _ => by cases h
  | .bool _, _, _, _, h, _, _, _, _ => by cases h
  | .str _, _, _, _, h, _, _, _, _ => by cases h
  | .list _, _, _, _, h, _, _, _, _ => by cases h
  | .dict _, _, _, _, h, _, _, _, _ => by cases h
theorem parT : ∀ (ds es : List PyData) (r r' : List Nat), pureAll ds = true → pureAll es = true → tok (.tuple ds) ++ r = tok (.tuple es) ++ r' → ds = es ∧ r = r'
  | [], es, r, r', _, he, h => by
    rw [tok_tup0] at h
    match es with
    | [] =>
      rw [tok_tup0] at h
      exact ⟨rfl, (List.cons.inj (List.cons.inj h).2).2⟩
    | [x] =>
      exfalso
      simp only [pureAll, Bool.and_eq_true] at he
      obtain ⟨c, t, e1, n⟩ := pur_head he.1
      rw [tok_tup1, e1] at h
      have := (List.cons.inj (List.cons.inj h).2).1
      unfold numC at n
      omega
    | x :: y :: q =>
      exfalso
      simp only [pureAll, Bool.and_eq_true] at he
      obtain ⟨c, t, e1, n⟩ := pur_head he.1
      rw [tok_tup2, e1] at h
      have := (List.cons.inj (List.cons.inj h).2).1
      unfold numC at n
      omega
  | d :: ds, es, r, r', hd, he, h => by
    simp only [pureAll, Bool.and_eq_true] at hd
    obtain ⟨tl, e0, e0e⟩ : ∃ tl, tok (.tuple (d :: ds)) = 40 :: (tok d ++ tl) ∧ (ds = [] ∧ tl = [44, 41] ∨ ds ≠ [] ∧ tl = restT ds) := by
      match ds with
      | [] => exact ⟨_, tok_tup1 d, .inl ⟨rfl, rfl⟩⟩
      | y :: q => exact ⟨_, tok_tup2 d y q, .inr ⟨(fun z => nomatch z), rfl⟩⟩
    match es with
    | [] =>
      exfalso
      obtain ⟨c, t, e1, n⟩ := pur_head hd.1
      rw [tok_tup0, e0, e1] at h
      have := (List.cons.inj (List.cons.inj h).2).1
      unfold numC at n
      omega
    | x :: es =>
      simp only [pureAll, Bool.and_eq_true] at he
      obtain ⟨tl', f0, f0e⟩ : ∃ tl, tok (.tuple (x :: es)) = 40 :: (tok x ++ tl) ∧ (es = [] ∧ tl = [44, 41] ∨ es ≠ [] ∧ tl = restT es) := by
        match es with
        | [] => exact ⟨_, tok_tup1 x, .inl ⟨rfl, rfl⟩⟩
        | y :: q => exact ⟨_, tok_tup2 x y q, .inr ⟨(fun z => nomatch z), rfl⟩⟩
      rw [e0, f0] at h
      have h2 : tok d ++ (tl ++ r) = tok x ++ (tl' ++ r') := (List.append_assoc ..).symm.trans ((List.cons.inj h).2.trans (List.append_assoc ..))
      have en : ∀ {ds : List PyData} {tl q : List Nat}, (ds = [] ∧ tl = [44, 41] ∨ ds ≠ [] ∧ tl = restT ds) → endC (tl ++ q) := fun h => by
        rcases h with ⟨_, e⟩ | ⟨_, e⟩ <;> rw [e]
        · exact end44 _
        · exact restE _ _
      obtain ⟨k1, k2⟩ := par d x (tl ++ r) (tl' ++ r') hd.1 he.1 (en e0e) (en f0e) h2
      have no : ∀ {qs : List PyData} {t t' : List Nat}, qs ≠ [] → [44, 41] ++ t ≠ restT qs ++ t' := fun {qs t t'} q0 e => by
        cases qs with
        | nil => exact q0 rfl
        | cons q qs =>
          have := (List.cons.inj (List.cons.inj e).2).1
          omega
      rcases e0e with ⟨a1, a2⟩ | ⟨a1, a2⟩ <;> rcases f0e with ⟨b1, b2⟩ | ⟨b1, b2⟩
      · rw [a2, b2] at k2
        exact ⟨by rw [k1, a1, b1], List.append_cancel_left k2⟩
      · rw [a2, b2] at k2
        exact absurd k2 (no b1)
      · rw [a2, b2] at k2
        exact absurd k2.symm (no a1)
      · rw [a2, b2] at k2
        obtain ⟨k3, k4⟩ := parR ds es r r' hd.2 he.2 k2
        exact ⟨by rw [k1, k3], k4⟩
theorem parR : ∀ (ds es : List PyData) (r r' : List Nat), pureAll ds = true → pureAll es = true → restT ds ++ r = restT es ++ r' → ds = es ∧ r = r'
  | [], es, r, r', _, _, h => by
    cases es with
    | nil => exact ⟨rfl, (List.cons.inj h).2⟩
    | cons e es =>
      exfalso
      have := (List.cons.inj h).1
      omega
  | d :: ds, es, r, r', hd, he, h => by
    cases es with
    | nil =>
      exfalso
      have := (List.cons.inj h).1
      omega
    | cons e es =>
      simp only [pureAll, Bool.and_eq_true] at hd he
      have h2 : tok d ++ (restT ds ++ r) = tok e ++ (restT es ++ r') := (List.append_assoc ..).symm.trans ((List.cons.inj (List.cons.inj h).2).2.trans (List.append_assoc ..))
      obtain ⟨k1, k2⟩ := par d e (restT ds ++ r) (restT es ++ r') hd.1 he.1 (restE _ _) (restE _ _) h2
      obtain ⟨k3, k4⟩ := parR ds es r r' hd.2 he.2 k2
      exact ⟨by rw [k1, k3], k4⟩
end
theorem shown_inj {d e : PyData} (he : pureD e = true) (h : d.shown = e.shown) : d = e := by
  have ht : tok d = tok e := congrArg (fun s : Str => s.cps.toList) h
  have hd := pur_back d (by rw [ht]; exact pur_chars e he)
  exact (par d e [] [] hd he (fun _ _ e => nomatch e) (fun _ _ e => nomatch e) (by rw [ht])).1

/-! ### a play, of a course that is cut behind it -/
theorem changes_take (ns : List Int) (N : Nat) (h : N ≤ ns.length) : ∃ t, changesI ns = changesI (ns.take N) ++ t := by
  refine ⟨(((List.range (ns.length - 1 - (N - 1))).map ((N - 1) + ·)).filter (changesP ns)).map fun i : Nat => 1 + (i : Int), ?_⟩
  unfold changesI
  rw [← List.map_append, List.length_take, Nat.min_eq_left h]
  conv => lhs; rw [show ns.length - 1 = (N - 1) + (ns.length - 1 - (N - 1)) by omega, List.range_add, List.filter_append]
  congr 2
  refine List.filter_congr fun i hi => ?_
  have hi' := List.mem_range.mp hi
  unfold changesP
  rw [List.getElem?_take, List.getElem?_take, if_pos (by omega), if_pos (by omega)]
theorem gaps_take {r : Int} {a b : List Int} (h : gapsB r (a ++ b) = true) : gapsB r a = true := by
  unfold gapsB at *
  rw [List.all_eq_true] at *
  intro p hp
  refine h p ?_
  obtain ⟨i, hi⟩ := List.mem_iff_getElem?.mp hp
  obtain ⟨h1, h2⟩ := List.getElem?_zip_eq_some.mp hi
  rw [List.getElem?_drop] at h2
  have l1 := (List.getElem?_eq_some_iff.mp h1).1
  have l2 := (List.getElem?_eq_some_iff.mp h2).1
  refine List.mem_iff_getElem?.mpr ⟨i, List.getElem?_zip_eq_some.mpr ⟨?_, ?_⟩⟩
  · rw [List.getElem?_append_left l1, h1]
  · rw [List.getElem?_drop, List.getElem?_append_left l2, h2]
theorem kept_take {ns : List Int} {r : Int} {N : Nat} (h : keptB ns r = true) : keptB (ns.take N) r = true := by
  by_cases hN : N ≤ ns.length
  · obtain ⟨t, e⟩ := changes_take ns N hN
    unfold keptB at *
    rw [e] at h
    exact gaps_take h
  · rw [List.take_of_length_le (by omega)]
    exact h
theorem getD_take {cs : List Int} {N k : Nat} (h : k < N) : (cs.take N).getD k 0 = cs.getD k 0 := by
  rw [List.getD_eq_getElem?_getD, List.getD_eq_getElem?_getD, List.getElem?_take, if_pos h]
theorem heads_cut {cs : List Int} {N m g : Nat} (h : m < N) : headsI (cs.take N) m g = headsI cs m g := by
  unfold headsI
  exact List.map_congr_left fun i _ => getD_take (by omega)
theorem stepB_take {z : Int} {row : Row} {named asked : Int} {cs : List Int} {g m N : Nat} {l : Bool} {d : PyData} (h : m < N) : stepB z row named asked (cs.take N) g m l d = stepB z row named asked cs g m l d := by
  unfold stepB
  rw [getD_take h, heads_cut h]
theorem playB_take {z : Int} {rs : List Row} {cs : List Int} {g N : Nat} : ∀ (ds : List PyData) (m i : Nat) (named asked : Int), m + ds.length ≤ N → playB z rs (cs.take N) g m i named asked ds = playB z rs cs g m i named asked ds
  | [], _, _, _, _, _ => rfl
  | d :: ds, m, i, named, asked, h => by
    rw [List.length_cons] at h
    unfold playB
    cases rs[i]? with
    | none => rfl
    | some row =>
      simp only
      rw [stepB_take (by omega)]
      cases stepB z row named asked cs g m ds.isEmpty d with
      | inr b => rfl
      | inl nm => exact playB_take ds (m + 1) _ _ _ (by omega)
theorem back_ints (ns : List Int) : (ns.map PyData.int).map intD = ns := by
  rw [List.map_map]
  conv => rhs; rw [← List.map_id ns]
  exact List.map_congr_left fun _ _ => rfl
theorem story_true {z r : Int} {g : Nat} {rs : List Row} {cs : List Int} {ps : List (Int × Int)} (inC : InZ z cs) (hk : keptB cs r = true) (p0 : 0 < ps.length) (l : g + ps.length ≤ cs.length) (hp : playB z rs cs g g 0 0 (-1) (ps.map pairD) = true) : storyD z r g rs (storyT (cs.take (g + ps.length)) ps) = true := by
  have lt : (cs.take (g + ps.length)).length = g + ps.length := by rw [List.length_take]; omega
  have c1 : courseD z r (.tuple ((cs.take (g + ps.length)).map PyData.int)) = true := by
    simp only [courseD, Bool.and_eq_true]
    refine ⟨⟨?_, ?_⟩, by rw [back_ints]; exact kept_take hk⟩
    · cases e : (cs.take (g + ps.length)).map PyData.int with
      | nil =>
        exfalso
        have h0 : ((cs.take (g + ps.length)).map PyData.int).length = g + ps.length := by rw [List.length_map, lt]
        rw [e] at h0
        have h1 : 0 = g + ps.length := h0
        omega
      | cons _ _ => rfl
    · rw [List.all_eq_true]
      intro d hd
      obtain ⟨x, hx, rfl⟩ := List.mem_map.mp hd
      have := inC x (List.mem_of_mem_take hx)
      simp only [wholeD, Bool.and_eq_true, decide_eq_true_eq]
      omega
  have c2 : decide (0 < (ps.map pairD).length ∧ ((cs.take (g + ps.length)).map PyData.int).length = g + (ps.map pairD).length) = true := decide_eq_true ⟨by rw [List.length_map]; exact p0, by rw [List.length_map, List.length_map, lt]⟩
  simp only [storyT, storyD]
  rw [c1, c2, back_ints, playB_take _ _ _ _ _ (by rw [List.length_map]; exact Nat.le_refl _), hp]
  rfl
theorem storyT_pure (cs : List Int) (ps : List (Int × Int)) : pureD (storyT cs ps) = true := by
  have a : ∀ ns : List Int, pureAll (ns.map PyData.int) = true := fun ns => by
    induction ns with
    | nil => rfl
    | cons x r ih => simp only [List.map_cons, pureAll, pureD, ih, Bool.and_self]
  have b : ∀ qs : List (Int × Int), pureAll (qs.map pairD) = true := fun qs => by
    induction qs with
    | nil => rfl
    | cons x r ih => simp only [List.map_cons, pureAll, pairD, pureD, ih, Bool.and_self]
  simp only [storyT, pureD, pureAll, a, b, Bool.and_self]
theorem storyT_tiny {z : Int} {cs : List Int} {ps : List (Int × Int)} {W : Nat} (z4 : z ≤ 4) (inC : InZ z cs) (inP : PairsIn z ps) (l : cs.length + 3 * ps.length + 3 ≤ W) : Tiny 140 W 3 (storyT cs ps) := by
  have wI : ∀ ms : List Int, wtAll (ms.map PyData.int) = ms.length := fun ms => by
    induction ms with
    | nil => rfl
    | cons x r ih => simp only [List.map_cons, wtAll, wt, ih, List.length_cons]; omega
  have wP : ∀ qs : List (Int × Int), wtAll (qs.map pairD) = 3 * qs.length := fun qs => by
    induction qs with
    | nil => rfl
    | cons x r ih => simp only [List.map_cons, wtAll, wt, pairD, ih, List.length_cons]; omega
  have nI : ∀ x ∈ cs, nice 140 (.int x) = true := fun x hx => nice_int (by decide) (by have := inC x hx; omega)
  refine ⟨?_, ?_, ?_⟩
  · simp only [storyT, nice, niceAll, Bool.and_true, Bool.and_eq_true]
    refine ⟨niceAll_iff.mpr fun d hd => ?_, niceAll_iff.mpr fun d hd => ?_⟩
    · obtain ⟨x, hx, rfl⟩ := List.mem_map.mp hd
      exact nI x hx
    · obtain ⟨q, hq, rfl⟩ := List.mem_map.mp hd
      have := inP q hq
      simp only [pairD, nice, niceAll, Bool.and_true, Bool.and_eq_true]
      exact ⟨nice_int (by decide) (by omega), nice_int (by decide) (by omega)⟩
  · simp only [storyT, wt, wtAll, wI, wP]
    omega
  · have dI : PyData.depthAll (cs.map PyData.int) ≤ 0 := depthAll_le.mpr fun d hd => by
      obtain ⟨x, hx, rfl⟩ := List.mem_map.mp hd
      simp [PyData.depth]
    have dP : PyData.depthAll (ps.map pairD) ≤ 1 := depthAll_le.mpr fun d hd => by
      obtain ⟨q, hq, rfl⟩ := List.mem_map.mp hd
      simp [pairD, PyData.depth, PyData.depthAll]
    simp only [storyT, PyData.depth, PyData.depthAll]
    omega
/-- what is asked of a value -/
structure Val16 (d : PyData) : Prop where
  ti : Tiny 143 12000 20 d
  le : ∀ c t, d = .tuple [c, t] → ∀ cs, c = .tuple cs → cs.length ≤ 4000
theorem Val16.small {d : PyData} (t : Tiny 143 4000 20 d) : Val16 d := ⟨t.mono (Nat.le_refl _) (by decide) (Nat.le_refl _), fun c u e cs e' => by
  have h := t.we
  subst e
  subst e'
  have := wtAll_len cs
  simp only [wt, wtAll] at h
  omega⟩
theorem Val16.parts {d : PyData} (v : Val16 d) : ∀ c t, d = .tuple [c, t] → SeqAt.shaped c = true ∧ SeqAt.shaped t = true ∧ ∀ cs, c = .tuple cs → cs.length ≤ 4000 := fun c t e => by
  have h1 := v.ti.ni
  have h2 := v.ti.de
  refine ⟨?_, ?_, v.le c t e⟩ <;> subst e <;> simp only [nice, niceAll, Bool.and_true, Bool.and_eq_true] at h1 <;> simp only [PyData.depth, PyData.depthAll] at h2
  · exact nice_shaped h1.1 (by omega)
  · exact nice_shaped h1.2 (by omega)
theorem Val16.story {z : Int} {cs : List Int} {ps : List (Int × Int)} (z4 : z ≤ 4) (inC : InZ z cs) (inP : PairsIn z ps) (l1 : cs.length ≤ 4000) (l : cs.length + 3 * ps.length + 3 ≤ 12000) : Val16 (storyT cs ps) := ⟨(storyT_tiny z4 inC inP l).mono (by decide) (Nat.le_refl _) (by decide), fun c t e xs e' => by
  have e1 := (List.cons.inj (PyData.tuple.inj e)).1
  rw [← e1] at e'
  rw [← PyData.tuple.inj e', List.length_map]
  exact l1⟩
theorem show_two (b : Bool) : PyData.showable (.list [.bool b, .bool b]) = true ∧ PyData.depth (.list [.bool b, .bool b]) ≤ 50 ∧ (PyData.shown (.list [.bool b, .bool b])).length ≤ sizeLine := by
  cases b <;> refine ⟨by decide, by decide, Nat.le_trans (by decide : _ ≤ 20) (by decide)⟩
theorem dpAll_rep {K : PySem.W.Frag} {H : Hp} {v : V} {d : PyData} (h : Dp K H v d) : ∀ k : Nat, DpAll K H (List.replicate k v) (List.replicate k d)
  | 0 => .nil
  | k + 1 => .cons h (dpAll_rep h k)
theorem row_shaped {r : Row} (h : deedOk r.1) : SeqAt.shaped (rowD r) = true := by
  obtain ⟨s, a, b⟩ := r
  have e : PyData.strOk s = true := by
    rcases h with h | h | h <;> (simp only at h; rw [h]; decide +kernel)
  simp [SeqAt.shaped, rowD, PyData.canLay0, PyData.canLayAll0, PyData.depth, PyData.depthAll, e]

section
variable {P : Program} {w : World} {K : PySem.W.Frag} {mg : Str → Option Value} {base : Heap}
theorem law_does {f : Addr} (T : Txt K mg) (TB : ∀ p ∈ T.tabs, GxR.TabB base mg p.1 p.2) : LawDoesT P w K mg base s_law ["_law_script", "_law_deck_here", "_law_lap", "_law_house_here", "_law_table_here", "_law_course_here", "_law_pairs", "_law_asker", "_law_is_served", "_law_story", "_law_values", "_law_many", "_law_long", "_law_value", "_law_held", "_law_due"] f T.tabs := by
  intro cdv s H a ns h63 hTt hS
  have mB1 : (T.c_heads_back, T.p_heads_back) ∈ T.tabs := by simp [Txt.tabs]
  have mB2 : (T.c_tellings, T.p_tellings) ∈ T.tabs := by simp [Txt.tabs]
  have mB3 : (T.c_changes_of, T.p_changes_of) ∈ T.tabs := by simp [Txt.tabs]
  have TB1 : GxR.TabB base mg T.c_heads_back T.p_heads_back := TB _ mB1
  have TB2 : GxR.TabB base mg T.c_tellings T.p_tellings := TB _ mB2
  have TB3 : GxR.TabB base mg T.c_changes_of T.p_changes_of := TB _ mB3
  have hT10 : GxR.TabG H T.p_heads_back := ⟨#[], hTt _ mB1, by trivial⟩
  have hT20 : GxR.TabG H T.p_tellings := ⟨#[], hTt _ mB2, by trivial⟩
  have hT30 : GxR.TabG H T.p_changes_of := ⟨#[], hTt _ mB3, by trivial⟩
  have hr := room_law (envOfC "law" (defScope s_law) s.heap.objs.size f cdv)
  have G_deck : FnOk P w K mg base CX0 1 T.a_deck T.d_deck ["_law_script"] (sp_deck K) := ok_deck T
  have G_draw : FnOk P w K mg base CX0 1 T.a_draw T.d_draw ["_law_deck_here", "_law_many"] (sp_draw K) := ok_draw T
  have G_both : FnOk P w K mg base CX0 4 T.a_both T.d_both ["_law_deck_here", "_law_room"] (sp_both K) := ok_both T
  have G_courseK : FnOk P w K mg base CX0 3 T.a_course T.d_course ["_law_deck_here", "_law_house_here", "_law_many"] (sp_courseK K) := ok_courseK T
  have G_play : FnOk P w K mg base CX0 4 T.a_play T.d_play ["_law_deck_here", "_law_house_here", "_law_table_here", "_law_course_here"] (sp_play K) := ok_play T
  have G_otherwise : FnOk P w K mg base CX0 4 T.a_otherwise T.d_otherwise ["_law_deck_here", "_law_house_here", "_law_story"] (sp_otherw K) := ok_otherw T
  have G_bent : FnOk P w K mg base CX0 7 T.a_bent T.d_bent ["_law_deck_here", "_law_thing", "_law_deep"] (sp_bent K 4) := ok_bent T 4
  have G_odd : FnOk P w K mg base CX0 3 T.a_odd T.d_odd ["_law_deck_here"] (sp_odd K) := ok_odd T
  have G_l_is_story : FnOk P w K mg base CX0 3 T.a_l_is_story T.d_l_is_story ["_law_house_here", "_law_table_here", "_law_value"] (sp_lstory K) := ok_lstory T
  have G_is_story : FnOk P w K mg base CX0 4 T.a_is_story T.d_is_story ["house", "table", "value"] (sp_isstory K T.p_heads_back T.p_tellings T.p_changes_of) := ok_isstory T TB1 TB2 TB3
  refine ⟨_, (pss_cons (ps_set (i := 1) sc_law.nd rfl (Or.inl rfl) (pe_call G_deck (hr.mono (by omega)) (by rfl) T.g_deck T.F_deck.kp T.b_deck .nil pass0 (pa_cons (pv 0) pa_nil)))
      (pss_cons (ps_for PassesOwn.never rfl (pi_range1 (by rfl) T.m_range (pa_cons pe_int pa_nil)) (pg_name (i := 2) sc_law.nd rfl (Or.inl rfl))
        (pss_cons (ps_asg (pe_call G_both (hr.mono (by omega)) (by rfl) T.g_both T.F_both.kp T.b_both .nil pass0 (pa_cons (pv 1) (pa_cons pe_int pa_nil))) (pg_tup (by rfl) (pgs_cons (pg_name (i := 3) sc_law.nd rfl (Or.inl rfl)) (pgs_cons (pg_name (i := 4) sc_law.nd rfl (Or.inl rfl)) pgs_nil))))
      (Evl.pss_cut (ps_if (PW.pt (pw_and (pt_cmpR op_eq (pv 2) pe_int (nomark _)) (pw_and1 (pt_cmpR op_eq (pe_call G_draw (hr.mono (by omega)) (by rfl) T.g_draw T.F_draw.kp T.b_draw .nil pass0 (pa_cons (pv 1) (pa_cons pe_int pa_nil))) pe_int (nomark _)))))
        (pss_one (ps_set (i := 4) sc_law.nd rfl (Or.inl rfl) (pe_tup (pa_cons (pe_tup (pa_cons pe_str (pa_cons pe_int (pa_cons pe_int pa_nil)))) pa_nil))))
        pss_nil)
      (pss_cons (ps_set (i := 5) sc_law.nd rfl (Or.inl rfl) (pe_call G_courseK (hr.mono (by omega)) (by rfl) T.g_course T.F_course.kp T.b_course .nil pass0 (pa_cons (pv 1) (pa_cons (pv 3) (pa_cons (pe_op op_add (pe_op op_add (pe_ix ix_tup (pv 3) pe_int (fun _ _ => rfl)) pe_int) (pe_call G_draw (hr.mono (by omega)) (by rfl) T.g_draw T.F_draw.kp T.b_draw .nil pass0 (pa_cons (pv 1) (pa_cons pe_int pa_nil)))) pa_nil)))))
      (pss_cons (ps_asg (pe_call G_play (hr.mono (by omega)) (by rfl) T.g_play T.F_play.kp T.b_play .nil pass0 (pa_cons (pv 1) (pa_cons (pv 3) (pa_cons (pv 4) (pa_cons (pv 5) pa_nil))))) (pg_tup (by rfl) (pgs_cons (pg_name (i := 6) sc_law.nd rfl (Or.inl rfl)) (pgs_cons (pg_name (i := 7) sc_law.nd rfl (Or.inl rfl)) (pgs_cons (pg_name (i := 8) sc_law.nd rfl (Or.inl rfl)) pgs_nil)))))
      (pss_cons (ps_set (i := 9) sc_law.nd rfl (Or.inl rfl) (pe_tup (pa_cons (pe_slice sl_tupS (pv 5) po_none (po_some (pe_op op_add (pe_ix ix_tup (pv 3) pe_int (fun _ _ => rfl)) (pe_callB (id := "len") call_len_seq (by rfl) T.m_len (by decide +kernel) (pa_cons (pv 6) pa_nil))))) (pa_cons (pe_callTy (T := "tuple") call_tuple_of (by rfl) T.m_tuple (by decide +kernel) (pa_cons (pv 6) pa_nil)) pa_nil))))
      (pss_cons (ps_set (i := 10) sc_law.nd rfl (Or.inl rfl) (pe_lst (pa_cons (pv 9) (pa_cons (pe_call G_otherwise (hr.mono (by omega)) (by rfl) T.g_otherwise T.F_otherwise.kp T.b_otherwise .nil pass0 (pa_cons (pv 1) (pa_cons (pv 3) (pa_cons (pv 9) pa_nil)))) (pa_cons (pe_call G_otherwise (hr.mono (by omega)) (by rfl) T.g_otherwise T.F_otherwise.kp T.b_otherwise .nil pass0 (pa_cons (pv 1) (pa_cons (pv 3) (pa_cons (pv 9) pa_nil)))) pa_nil)))))
      (pss_cons (ps_set (i := 10) sc_law.nd rfl (Or.inl rfl) (pe_op op_cat (pv 10) (pe_lst (pa_cons (pe_call G_bent (hr.mono (by omega)) (by rfl) T.g_bent T.F_bent.kp T.b_bent .nil pass0 (pa_cons (pv 1) (pa_cons (pv 9) (pa_cons pe_int pa_nil)))) (pa_cons (pe_call G_odd (hr.mono (by omega)) (by rfl) T.g_odd T.F_odd.kp T.b_odd .nil pass0 (pa_cons (pv 1) pa_nil)) (pa_cons (pe_tup (pa_cons (pe_ix ix_tup (pv 9) pe_int (fun _ _ => rfl)) (pa_cons (pe_tup pa_nil) pa_nil))) (pa_cons (pe_tup (pa_cons (pe_slice sl_tupS (pe_ix ix_tup (pv 9) pe_int (fun _ _ => rfl)) po_none (po_some (pe_ix ix_tup (pv 3) pe_int (fun _ _ => rfl)))) (pa_cons (pe_tup pa_nil) pa_nil))) pa_nil)))))))
      (pss_cons (ps_set (i := 11) sc_law.nd rfl (Or.inl rfl) (pe_op op_add pe_int (pe_call G_draw (hr.mono (by omega)) (by rfl) T.g_draw T.F_draw.kp T.b_draw .nil pass0 (pa_cons (pv 1) (pa_cons pe_int pa_nil)))))
      (Evl.pss_cut (ps_if (PW.pt (pw_and (pt_cmpR op_eq (pv 2) pe_int (nomark _)) (pw_and (pt_cmpR (op_eqD hr.units) (pe_ix ix_tup (pv 4) pe_int (fun _ _ => rfl)) (pe_tup (pa_cons pe_str (pa_cons pe_int (pa_cons pe_int pa_nil)))) (nomark _)) (pw_and1 (pt_cmpR op_eq (pe_ix ix_tup (pv 3) pe_int (fun _ _ => rfl)) pe_int (nomark _))))))
        (pss_cons (ps_set (i := 12) sc_law.nd rfl (Or.inl rfl) (pe_tup (pa_cons (pe_op op_repOne (pe_tup (pa_cons pe_int pa_nil)) (pe_op op_add (pe_ix ix_tup (pv 3) pe_int (fun _ _ => rfl)) (pv 11))) (pa_cons (pe_op op_repOne (pe_tup (pa_cons (pe_tup (pa_cons (pe_un un_neg pe_int) (pa_cons (pe_un un_neg pe_int) pa_nil))) pa_nil)) (pv 11)) pa_nil))))
      (pss_one (ps_set (i := 10) sc_law.nd rfl (Or.inl rfl) (pe_op op_cat (pv 10) (pe_lst (pa_cons (pv 12) (pa_cons (pe_tup (pa_cons (pe_ix ix_tup (pv 12) pe_int (fun _ _ => rfl)) (pa_cons (pe_op op_catS (pe_slice sl_tupS (pe_ix ix_tup (pv 12) pe_int (fun _ _ => rfl)) po_none (po_some (pe_un un_neg pe_int))) (pe_tup (pa_cons (pe_tup (pa_cons pe_int (pa_cons pe_int pa_nil))) pa_nil))) pa_nil))) pa_nil)))))))
        pss_nil)
      (pss_one (ps_for PassesOwn.never rfl (pi_list (pv 10)) (pg_name (i := 13) sc_law.nd rfl (Or.inl rfl))
        (pss_cons (ps_par (i := 14) (j := 15) (by rfl) sc_law.nd rfl rfl (by decide) rfl rfl (pa_cons (pe_callB (id := "repr") (call_show rfl (by show 7 + 64 < cLine; decide)) (by rfl) T.m_repr (by decide +kernel) (pa_cons (pv 13) pa_nil)) (pa_cons (pe_call G_l_is_story (hr.mono (by omega)) (by rfl) T.g_l_is_story T.F_l_is_story.kp T.b_l_is_story .nil pass0 (pa_cons (pv 3) (pa_cons (pv 4) (pa_cons (pv 13) pa_nil)))) pa_nil)) (by rfl))
      (pss_cons (ps_if (pt_cmpR op_ne (pe_callB (id := "repr") (call_show rfl (by show 7 + 64 < cLine; decide)) (by rfl) T.m_repr (by decide +kernel) (pa_cons (pe_op op_rep (pe_lst (pa_cons (pe_call G_is_story (hr.mono (by omega)) (by rfl) T.g_is_story T.F_is_story.kp T.b_is_story .nil pass0 (pa_cons (pv 3) (pa_cons (pv 4) (pa_cons (pv 13) pa_nil)))) pa_nil)) pe_int) pa_nil)) (pe_callB (id := "repr") (call_show rfl (by show 7 + 64 < cLine; decide)) (by rfl) T.m_repr (by decide +kernel) (pa_cons (pe_lst (pa_cons (pv 15) (pa_cons (pe_call G_is_story (hr.mono (by omega)) (by rfl) T.g_is_story T.F_is_story.kp T.b_is_story .nil pass0 (pa_cons (pv 3) (pa_cons (pv 4) (pa_cons (pv 13) pa_nil)))) pa_nil))) pa_nil)) (nomark _))
        (pss_one (ps_ret pe_bl))
        pss_nil)
      (pss_one (ps_if (PW.pt (pw_or (pt_cmpR op_ne (pe_callB (id := "repr") (call_show rfl (by show 7 + 64 < cLine; decide)) (by rfl) T.m_repr (by decide +kernel) (pa_cons (pv 13) pa_nil)) (pv 14) (nomark _)) (pw_or1 (PW.pt (pw_and (pt_cmpR op_eq (pv 14) (pe_callB (id := "repr") (call_show rfl (by show 7 + 64 < cLine; decide)) (by rfl) T.m_repr (by decide +kernel) (pa_cons (pv 9) pa_nil)) (nomark _)) (pw_and1 (pt_cmpR op_notBl (pv 15) pe_bl (nomark _))))))))
        (pss_one (ps_ret pe_bl))
        pss_nil))))))))))))))))
      (pss_one (ps_ret pe_bl)))), ?_⟩
  refine ⟨_, rfl, a, ns, rfl, hS, h63, fun p H1 D1 S1 hp => ?_⟩
  have hT1 : GxR.TabG H1 T.p_heads_back := (Tabs.of_same S1).tab hT10
  have hT2 : GxR.TabG H1 T.p_tellings := (Tabs.of_same S1).tab hT20
  have hT3 : GxR.TabG H1 T.p_changes_of := (Tabs.of_same S1).tab hT30
  have big : ∀ {q : Nat}, q ≤ 9000 → q ≤ sizeLine := fun h => Nat.le_trans h (by decide)
  refine ⟨10, rfl, by show -(2 ^ 62) ≤ (10 : Int); decide, by show (10 : Int) < 2 ^ 62; decide, for_range (lo := 0) (n := 10) (fun i σ H' => (∃ y2 y3 y4 y5 y6 y7 y8 y9 y10 y11 y12 y13 y14 y15, σ = [some (.ref a), some (.ref p), y2, y3, y4, y5, y6, y7, y8, y9, y10, y11, y12, y13, y14, y15]) ∧
    (GxR.TabG H' T.p_heads_back ∧ GxR.TabG H' T.p_tellings ∧ GxR.TabG H' T.p_changes_of) ∧ ∃ n, n ≤ 400 * i ∧ Deck K H' p n) ⟨⟨none, none, none, none, none, none, none, none, none, none, none, none, none, none, rfl⟩, ⟨hT1, hT2, hT3⟩, 0, by omega, D1⟩ ?_ ?_⟩
  · rintro i σ H2 hi ⟨⟨y2, y3, y4, y5, y6, y7, y8, y9, y10, y11, y12, y13, y14, y15, rfl⟩, ⟨hA, hB, hC⟩, n, hn, D2⟩
    refine ⟨_, rfl, p, 200, n, rfl, by decide, by decide, D2, by omega, fun z r g rs0 th tb v0 H3 n3 hH hT0 ht htb hv0 hn3 D3 K3 => ⟨tb, _, rfl, SqT.of htb, rfl, _, _, rfl, _, _, rfl, rfl, ?_⟩⟩
    obtain ⟨z2, z4, r1, r6, g0, g3, _⟩ := hH
    have th0 : th ≠ p := D3.ne_tup ht
    refine ⟨fun σ' J => ∃ (tv : V) (rs : List Row) (n' : Nat), σ' = [some (.ref a), some (.ref p), some (.int (0 + (i : Int))), some (.ref th), some tv, y5, y6, y7, y8, y9, y10, y11, y12, y13, y14, y15] ∧ TableOf 6 rs ∧ Dt K p J tv (tableD rs) ∧ n' ≤ n3 + 1 ∧ Deck K J p n' ∧ Keep p H3 J, ?_, ?_⟩
    · refine ⟨_, rfl, rfl, _, rfl, ite2 (fun _ => ?_) (fun _ => ⟨v0, rs0, n3, rfl, hT0, hv0, by omega, D3, Keep.refl p H3⟩)⟩
      refine ⟨_, rfl, p, 8, n3, rfl, by decide, by decide, D3, by omega, fun q J2 q0 q1 D4 K4 => ⟨rfl, _, rfl, ite2 (fun _ => ?_) (fun _ => ⟨v0, rs0, n3 + 1, rfl, hT0, K4.dt hv0, by omega, D4, K4⟩)⟩⟩
      refine ⟨by show 3 ≤ sizeLine; decide, fun u gu => ⟨by show 1 ≤ sizeLine; decide, fun t gt => ?_⟩⟩
      have Du := D4.put gu (o := .tup [.str "wait", .int 0, .int 0])
      have du : Dt K p (upd J2 u (.tup [.str "wait", .int 0, .int 0])) (.ref u) (rowD ("wait", 0, 0)) := dt_tup (D4.ne_new gu) gu (.cons (.str _) (.cons (.int _) (.cons (.int _) .nil)))
      refine ⟨.ref t, [("wait", 0, 0)], n3 + 1, rfl, ⟨by decide, by decide, fun row hr => ?_⟩, dt_tup (Du.ne_new gt) gt (.cons du .nil), by omega, Du.put gt, (K4.trans (Keep.new gu)).trans (Keep.new gt)⟩
      rw [List.mem_singleton.mp hr]
      exact ⟨by unfold deedOk; decide, by decide, by decide, by decide, by decide⟩
    · rintro σ' J4 ⟨tv, rs, n4, rfl, hTT, hv4, hn4, D4, K4⟩
      obtain ⟨t1, t6, hrs⟩ := hTT
      have ht4 := K4.at th0 ht
      refine ⟨_, rfl, _, rfl, _, rfl, th, _, 2, _, rfl, rfl, SqT.of ht4, rfl, _, _, rfl, rfl, _, rfl, p, 8, n4, rfl, by decide, by decide, D4, by omega, fun m J5 m0 m8 D5 K5 => ⟨_, _, rfl, rfl, ?_⟩⟩
      have ht5 := K5.at th0 ht4
      refine ⟨p, th, z, r, g, _, n4 + 1, rfl, ht5, z2, z4, by show 1 ≤ (g : Int) + 1 + m; omega, by show (g : Int) + 1 + m ≤ 100; omega, D5, by omega, fun cs tc J6 n6 cl cz ck hc _ n6a n6b D6 K6 => ?_⟩
      have cl' : (cs.length : Int) = (g : Int) + 1 + m := cl
      have tc0 : tc ≠ p := D6.ne_tup hc
      have K46 := K5.trans K6
      refine ⟨_, rfl, _, rfl, _, rfl, _, rfl, p, th, tc, tv, z, r, g, n6, rs, cs, rfl, K6.at th0 ht5, K46.dt hv4, hc, cz, by omega, by omega, by omega, hrs, by omega, z2, z4, D6, by omega, fun sv ps fs F ta rt ii named asked J7 n7 hrt hF FP hfs hta _ _ _ _ _ p0 pl pin hpl _ hn7 D7 K7 => ⟨rt, _, rfl, SqT.of hrt, rfl, _, _, rfl, _, _, rfl, _, _, rfl, rfl, ?_⟩⟩
      have K47 := K46.trans K7
      have ht7 := K47.at th0 ht4
      have hc7 := K7.at tc0 hc
      have ll : (cs.map V.int).length = cs.length := List.length_map ..
      have lf : fs.length = ps.length := by rw [dpAll_len hfs, List.length_map]
      -- the story
      refine ⟨_, rfl, _, rfl, th, _, 2, _, rfl, rfl, SqT.of ht7, rfl, _, rfl, F, _, rfl, .inl (SqL.of hF), _, _, rfl, rfl, _, rfl, tc, _, rfl, SqT.of hc7, fun q1 M1 c1 s1 => ?_⟩
      obtain ⟨cs1, ecs1⟩ : ∃ cs1, cs1 = cs.take (g + ps.length) := ⟨_, rfl⟩
      have c1' : SqT K M1 q1 (cs1.map V.int) := by
        rw [ecs1, List.map_take, ← cut_to _ (g + ps.length) (by rw [ll]; exact pl), show (((g + ps.length : Nat)) : Int) = (g : Int) + (fs.length : Int) by rw [lf]; omega]
        exact c1
      have l1 : cs1.length = g + ps.length := by rw [ecs1, List.length_take]; omega
      have inC1 : InZ z cs1 := by rw [ecs1]; exact InZ.take cz _
      have inP : PairsIn z ps := pin
      have hTrue : storyD z r g rs (storyT cs1 ps) = true := by rw [ecs1]; exact story_true cz ck p0 pl hpl
      refine ⟨_, rfl, F, _, rfl, .inl ⟨SqL.of (s1 _ _ hF), fun q2 g2 => ?_⟩⟩
      have s2 : Same M1 (upd M1 q2 (.tup fs)) := same_new g2
      have S2 := s1.trans s2
      have D8 := D7.of_same S2
      have K8 : Keep p J7 (upd M1 q2 (.tup fs)) := Keep.of_same S2
      have e1 : SqT K (upd M1 q2 (.tup fs)) q1 (cs1.map V.int) := sameT s2 c1'
      have e2 : SqT K (upd M1 q2 (.tup fs)) q2 fs := SqT.of upd_same
      have hq2 := K8.all hfs
      generalize upd M1 q2 (.tup fs) = M2 at *
      refine ⟨by show 2 ≤ sizeLine; decide, fun st gst => ?_⟩
      have dst : Dt K p (upd M2 st (.tup [.ref q1, .ref q2])) (.ref st) (storyT cs1 ps) := dt_tup (D8.ne_new gst) gst (.cons (dt_of D8 e1 (ints_dp cs1)) (.cons (dt_of D8 e2 hq2) .nil))
      have st0 : st ≠ p := D8.ne_new gst
      have D9 := D8.put gst (o := .tup [.ref q1, .ref q2])
      have K9 := K8.trans (Keep.new gst (o := .tup [.ref q1, .ref q2]))
      have hst : upd M2 st (.tup [.ref q1, .ref q2]) st = some (.tup [.ref q1, .ref q2]) := upd_same
      have e1' := sameT (same_new gst (o := .tup [.ref q1, .ref q2])) e1
      generalize upd M2 st (.tup [.ref q1, .ref q2]) = M3 at *
      have ofP : ∀ {J M : Hp} {a : Addr} {xs : List V} {m : Nat}, Deck K J p m → Keep p J M → SqT K J a xs → SqT K M a xs := fun D k h => by
        obtain ⟨_, _, _, _, hp1, _⟩ := id D
        exact sameT off_in (sameT k.s (tup_off hp1 h))
      have K49 := K47.trans K9
      -- two put otherwise
      refine ⟨_, rfl, _, rfl, _, rfl, _, rfl, p, th, .ref st, z, r, g, n7, cs1, ps, rfl, K49.at th0 ht4, dst, z2, z4, inC1, inP, by omega, p0, by omega, by omega, D9, by omega, fun csA psA vA M4 n8 dA iCA iPA lcA lpA hn8 D10 K10 => ?_⟩
      have A1 : Acc K p n8 M3 M4 [.ref st, vA] [storyT cs1 ps, storyT csA psA] := ⟨D10, .cons (K10.dt dst) (.cons dA .nil), K10⟩
      refine ⟨_, rfl, _, rfl, _, rfl, p, th, .ref st, z, r, g, n8, cs1, ps, rfl, (K49.trans K10).at th0 ht4, K10.dt dst, z2, z4, inC1, inP, by omega, p0, by omega, by omega, D10, by omega, fun csB psB vB M5 n9 dB iCB iPB lcB lpB hn9 D11 K11 => ?_⟩
      have A2 := (A1.keep K11 D11).add dB
      refine ⟨by show 3 ≤ sizeLine; decide, fun L gL => ?_⟩
      have L0 : L ≠ p := D11.ne_new gL
      have A3 := A2.new gL (o := .lst [.ref st, vA, vB])
      have hL : upd M5 L (.lst [.ref st, vA, vB]) L = some (.lst [.ref st, vA, vB]) := upd_same
      generalize upd M5 L (.lst [.ref st, vA, vB]) = M6 at *
      -- four more
      have tS : Tiny 140 700 3 (storyT cs1 ps) := storyT_tiny z4 inC1 inP (by omega)
      refine ⟨_, rfl, _, rfl, _, rfl, p, .ref st, storyT cs1 ps, 3, n9, 140, rfl, A3.kp.dt dst, tS.ni, by decide, by decide, Nat.lt_of_le_of_lt tS.we (by decide), Nat.le_trans tS.de (by decide), by decide, by decide, A3.dk, by omega, fun vC dC M7 n10 hvC bC hn10 D12 K12 => ?_⟩
      have A4 := (A3.keep K12 D12).add hvC
      refine ⟨_, rfl, p, n10, rfl, D12, by omega, fun vD dD M8 hvD tdD D13 K13 => ?_⟩
      have A5 := (A4.keep K13 D13).add hvD
      refine ⟨_, rfl, st, _, 0, _, rfl, rfl, SqT.of (A5.kp.at st0 hst), rfl, Nat.zero_le _, fun u1 gu1 => ⟨by show 2 ≤ sizeLine; decide, fun u2 gu2 => ?_⟩⟩
      have du1 : Dt K p (upd M8 u1 (.tup [])) (.ref u1) (.tuple []) := dt_tup (A5.dk.ne_new gu1) gu1 .nil
      have A6 := A5.new gu1 (o := .tup [])
      have hq1 : SqT K (upd M8 u1 (.tup [])) q1 (cs1.map V.int) := ofP D9 A6.kp e1'
      have d2 : Dt K p (upd (upd M8 u1 (.tup [])) u2 (.tup [.ref q1, .ref u1])) (.ref u2) (storyT cs1 []) := dt_tup (A6.dk.ne_new gu2) gu2 (.cons (dt_of A6.dk hq1 (ints_dp cs1)) (.cons du1 .nil))
      have A7 := (A6.new gu2 (o := .tup [.ref q1, .ref u1])).add d2
      have K89 : Keep p M8 (upd (upd M8 u1 (.tup [])) u2 (.tup [.ref q1, .ref u1])) := (Keep.new gu1).trans (Keep.new gu2)
      clear d2 hq1 A6 du1
      generalize upd (upd M8 u1 (.tup [])) u2 (.tup [.ref q1, .ref u1]) = M9 at *
      refine ⟨_, rfl, st, _, 0, _, rfl, rfl, SqT.of (A7.kp.at st0 hst), rfl, _, rfl, th, _, 2, _, rfl, rfl, SqT.of ((K49.trans A7.kp).at th0 ht4), rfl, _, rfl, q1, _, rfl, ofP D9 A7.kp e1', fun q3 M10 c3 s3 => ?_⟩
      have c3' : SqT K M10 q3 ((cs1.take g).map V.int) := by
        rw [List.map_take, ← cut_to _ g (by rw [List.length_map]; omega)]
        exact c3
      have A8 := A7.same s3
      refine ⟨Nat.zero_le _, fun u3 gu3 => ⟨by show 2 ≤ sizeLine; decide, fun u4 gu4 => ?_⟩⟩
      have du3 : Dt K p (upd M10 u3 (.tup [])) (.ref u3) (.tuple []) := dt_tup (A8.dk.ne_new gu3) gu3 .nil
      have A9 := A8.new gu3 (o := .tup [])
      have hq3 : SqT K (upd M10 u3 (.tup [])) q3 ((cs1.take g).map V.int) := sameT (same_new gu3) c3'
      have d4 : Dt K p (upd (upd M10 u3 (.tup [])) u4 (.tup [.ref q3, .ref u3])) (.ref u4) (storyT (cs1.take g) []) := dt_tup (A9.dk.ne_new gu4) gu4 (.cons (dt_of A9.dk hq3 (ints_dp (cs1.take g))) (.cons du3 .nil))
      have A10 := (A9.new gu4 (o := .tup [.ref q3, .ref u3])).add d4
      have K1011 : Keep p M10 (upd (upd M10 u3 (.tup [])) u4 (.tup [.ref q3, .ref u3])) := (Keep.new gu3).trans (Keep.new gu4)
      clear d4 hq3 A9 du3
      generalize upd (upd M10 u3 (.tup [])) u4 (.tup [.ref q3, .ref u3]) = M11 at *
      have hL2 : M11 L = some (.lst [.ref st, vA, vB]) := by
        have kk : Keep p M6 M11 := (((K12.trans K13).trans K89).trans (Keep.of_same s3)).trans K1011
        exact kk.at L0 hL
      refine ⟨by show 4 ≤ sizeLine; decide, fun l gl => ?_⟩
      have A11 := A10.new gl (o := .lst [vC, vD, .ref u2, .ref u4])
      refine ⟨L, l, _, _, rfl, rfl, same_new gl _ _ hL2, upd_same, by show 7 ≤ sizeLine; decide, fun L2 gL2 => ?_⟩
      have A12 := A11.new gL2 (o := .lst ([.ref st, vA, vB] ++ [vC, vD, .ref u2, .ref u4]))
      have L20 : L2 ≠ p := A11.dk.ne_new gL2
      have hL3 : upd (upd M11 l (.lst [vC, vD, .ref u2, .ref u4])) L2 (.lst ([.ref st, vA, vB] ++ [vC, vD, .ref u2, .ref u4])) L2 = some (.lst [.ref st, vA, vB, vC, vD, .ref u2, .ref u4]) := upd_same
      generalize upd (upd M11 l (.lst [vC, vD, .ref u2, .ref u4])) L2 (.lst ([.ref st, vA, vB] ++ [vC, vD, .ref u2, .ref u4])) = M12 at *
      -- how many
      refine ⟨_, rfl, p, 900, n10 + 1, rfl, by decide, by decide, A12.dk, by omega, fun mm M13 mm0 mm9 D14 K14 => ⟨_, _, rfl, rfl, ?_⟩⟩
      have A13 := A12.keep K14 D14
      have hL4 := K14.at L20 hL3
      have ok7 : ∀ d ∈ [storyT cs1 ps, storyT csA psA, storyT csB psB, dC, dD, storyT cs1 [], storyT (cs1.take g) []], Val16 d := by
        intro d hd
        simp only [List.mem_cons, List.not_mem_nil, or_false] at hd
        have nilP : PairsIn z [] := fun q hq => (List.not_mem_nil hq).elim
        rcases hd with e | e | e | e | e | e | e <;> rw [e]
        · exact .story z4 inC1 inP (by omega) (by omega)
        · exact .story z4 iCA iPA (by omega) (by omega)
        · exact .story z4 iCB iPB (by omega) (by omega)
        · have w1 := bC.we
          have w2 := bC.de
          have w3 := tS.we
          have w4 := tS.de
          exact .small ⟨nice_more (by decide) _ bC.ni, by omega, by omega⟩
        · exact .small (tdD.mono (by decide) (by decide) (by decide))
        · exact .story z4 inC1 nilP (by omega) (by show cs1.length + 3 * 0 + 3 ≤ 12000; omega)
        · exact .story z4 (inC1.take g) nilP (by rw [List.length_take]; omega) (by rw [List.length_take]; show min g cs1.length + 3 * 0 + 3 ≤ 12000; omega)
      have al7 : DpAll K (off p M13) [.ref st, vA, vB, vC, vD, .ref u2, .ref u4] [storyT cs1 ps, storyT csA psA, storyT csB psB, dC, dD, storyT cs1 [], storyT (cs1.take g) []] := A13.al
      have K313 : Keep p M3 M13 := A13.kp
      have K413 := K49.trans K313
      have D13' : Deck K M13 p (n10 + 2) := A13.dk
      have hst13 := K313.at st0 hst
      have dst13 := K313.dt dst
      have ht13 := K413.at th0 ht4
      have hv13 := K413.dt hv4
      clear A13 A12 A11 A10 A8 A7 A5 A4 A3 A2 A1
      obtain ⟨k, ek, k1, k2⟩ : ∃ k : Nat, 1500 + mm = (k : Int) ∧ 1500 ≤ k ∧ k < 2400 := ⟨(1500 + mm).toNat, by omega, by omega, by omega⟩
      obtain ⟨ta', txs, rfl, htx, lx, hrow⟩ := dp_table (dpSame off_in _ _ hv13)
      obtain ⟨row, hrow0⟩ : ∃ row, rs[0]? = some row := ⟨_, List.getElem?_eq_getElem (by omega)⟩
      obtain ⟨b0, hb0, hbS⟩ := hrow 0 row hrow0
      refine ⟨fun σ' J => ∃ (L : Addr) (vs : List V) (ds : List PyData) (y : Option V), σ' = [some (.ref a), some (.ref p), some (.int (0 + (i : Int))), some (.ref th), some (.ref ta'), some (.ref tc), some (.ref F), some (.ref ta), some (.bl sv), some (.ref st), some (.ref L), some (.int (1500 + mm)), y, y13, y14, y15] ∧ J L = some (.lst vs) ∧ L ≠ p ∧ DpAll K (off p J) vs ds ∧ (∀ d ∈ ds, Val16 d) ∧ Deck K J p (n10 + 2) ∧ Keep p M13 J, ?_, ?_⟩
      · have base : ∀ J, Keep p M13 J → Deck K J p (n10 + 2) → _ := fun J k D => (⟨L2, _, _, y12, rfl, k.at L20 hL4, L20, k.all al7, ok7, D, k⟩ : ∃ (L : Addr) (vs : List V) (ds : List PyData) (y : Option V), [some (.ref a), some (.ref p), some (.int (0 + (i : Int))), some (.ref th), some (.ref ta'), some (.ref tc), some (.ref F), some (.ref ta), some (.bl sv), some (.ref st), some (.ref L2), some (.int (1500 + mm)), y12, y13, y14, y15] = [some (.ref a), some (.ref p), some (.int (0 + (i : Int))), some (.ref th), some (.ref ta'), some (.ref tc), some (.ref F), some (.ref ta), some (.bl sv), some (.ref st), some (.ref L), some (.int (1500 + mm)), y, y13, y14, y15] ∧ J L = some (.lst vs) ∧ L ≠ p ∧ DpAll K (off p J) vs ds ∧ (∀ d ∈ ds, Val16 d) ∧ Deck K J p (n10 + 2) ∧ Keep p M13 J)
        refine ⟨_, rfl, rfl, _, rfl, ite2 (fun _ => ?_) (fun _ => base M13 (Keep.refl p M13) D13')⟩
        refine ⟨_, rfl, ta', txs, 0, _, rfl, rfl, htx, atI_nat (j := 0) hb0, by show 3 ≤ sizeLine; decide, fun w0 gw0 => ?_⟩
        have K0' : Keep p M13 (upd M13 w0 (.tup [.str "wait", .int 0, .int 0])) := Keep.new gw0
        have D0' := D13'.put gw0 (o := .tup [.str "wait", .int 0, .int 0])
        refine ⟨rowD row, rowD ("wait", 0, 0), .tup (sameT (same_new gw0) hbS) (.cons (.str _) (.cons (.int _) (.cons (.int _) .nil))), .tup (SqT.of upd_same) (.cons (.str _) (.cons (.int _) (.cons (.int _) .nil))), row_shaped (hrs row (List.mem_of_getElem? hrow0)).1, row_shaped (by unfold deedOk; decide), _, rfl, ite2 (fun _ => ?_) (fun _ => base _ K0' D0')⟩
        refine ⟨_, rfl, th, _, 0, _, rfl, rfl, SqT.of (K0'.at th0 ht13), rfl, rfl, _, rfl, ite2 (fun _ => ?_) (fun _ => base _ K0' D0')⟩
        generalize upd M13 w0 (.tup [.str "wait", .int 0, .int 0]) = N0 at *
        have ht0 := K0'.at th0 ht13
        refine ⟨by show 1 ≤ sizeLine; decide, fun w1 gw1 => ?_⟩
        have s1' : Same N0 (upd N0 w1 (.tup [.int 0])) := same_new gw1
        refine ⟨_, rfl, th, _, 2, _, rfl, rfl, SqT.of (s1' _ _ ht0), rfl, _, rfl, _, _, rfl, rfl, w1, _, _, rfl, rfl, SqT.of upd_same, by omega, by omega, fun w2 gw2 => ?_⟩
        have ek2 : ((g : Int) + (1500 + mm)).toNat = g + k := by omega
        have ek3 : (1500 + mm).toNat = k := by omega
        have Da := (D0'.put gw1 (o := .tup [.int 0])).put gw2 (o := .tup (List.replicate ((g : Int) + (1500 + mm)).toNat (V.int 0)))
        have Ka := (K0'.trans (Keep.new gw1 (o := .tup [.int 0]))).trans (Keep.new gw2 (o := .tup (List.replicate ((g : Int) + (1500 + mm)).toNat (V.int 0))))
        have hw2 : SqT K (upd (upd N0 w1 (.tup [.int 0])) w2 (.tup (List.replicate ((g : Int) + (1500 + mm)).toNat (V.int 0)))) w2 ((List.replicate (g + k) (0 : Int)).map V.int) := by
          rw [List.map_replicate, ← ek2]
          exact SqT.of upd_same
        refine ⟨1, rfl, 1, rfl, by show 2 ≤ sizeLine; decide, fun w3 gw3 => ⟨by show 1 ≤ sizeLine; decide, fun w4 gw4 => ?_⟩⟩
        have dw3 : Dt K p (upd (upd (upd N0 w1 (.tup [.int 0])) w2 (.tup (List.replicate ((g : Int) + (1500 + mm)).toNat (V.int 0)))) w3 (.tup [.int (-1), .int (-1)])) (.ref w3) (pairD (-1, -1)) := dt_tup (Da.ne_new gw3) gw3 (.cons (.int _) (.cons (.int _) .nil))
        have Db := Da.put gw3 (o := .tup [.int (-1), .int (-1)])
        have Dc := Db.put gw4 (o := .tup [.ref w3])
        refine ⟨_, rfl, w4, _, _, rfl, rfl, SqT.of upd_same, by omega, by omega, fun w5 gw5 => ⟨by show 2 ≤ sizeLine; decide, fun w6 gw6 => ?_⟩⟩
        have Dd := Dc.put gw5 (o := .tup (List.replicate (1500 + mm).toNat (V.ref w3)))
        have Kc := ((Keep.new (p := p) gw4 (o := .tup [.ref w3])).trans (Keep.new gw5 (o := .tup (List.replicate (1500 + mm).toNat (V.ref w3)))))
        have dw3' := Kc.dt dw3
        have hw2' := ofP Da ((Keep.new (p := p) gw3 (o := .tup [.int (-1), .int (-1)])).trans Kc) hw2
        have hw5 : SqT K (upd (upd (upd (upd (upd N0 w1 (.tup [.int 0])) w2 (.tup (List.replicate ((g : Int) + (1500 + mm)).toNat (V.int 0)))) w3 (.tup [.int (-1), .int (-1)])) w4 (.tup [.ref w3])) w5 (.tup (List.replicate (1500 + mm).toNat (V.ref w3)))) w5 (List.replicate k (V.ref w3)) := by
          rw [← ek3]
          exact SqT.of upd_same
        have alr : DpAll K (off p (upd (upd (upd (upd (upd N0 w1 (.tup [.int 0])) w2 (.tup (List.replicate ((g : Int) + (1500 + mm)).toNat (V.int 0)))) w3 (.tup [.int (-1), .int (-1)])) w4 (.tup [.ref w3])) w5 (.tup (List.replicate (1500 + mm).toNat (V.ref w3))))) (List.replicate k (V.ref w3)) ((List.replicate k (-1, -1)).map pairD) := by
          rw [List.map_replicate]
          exact dpAll_rep dw3' k
        have d6 : Dt K p (upd (upd (upd (upd (upd (upd N0 w1 (.tup [.int 0])) w2 (.tup (List.replicate ((g : Int) + (1500 + mm)).toNat (V.int 0)))) w3 (.tup [.int (-1), .int (-1)])) w4 (.tup [.ref w3])) w5 (.tup (List.replicate (1500 + mm).toNat (V.ref w3)))) w6 (.tup [.ref w2, .ref w5])) (.ref w6) (storyT (List.replicate (g + k) 0) (List.replicate k (-1, -1))) := dt_tup (Dd.ne_new gw6) gw6 (.cons (dt_of Dd hw2' (ints_dp _)) (.cons (dt_of Dd hw5 alr) .nil))
        have De := Dd.put gw6 (o := (.tup [.ref w2, .ref w5]))
        have Kd : Keep p M13 (upd (upd (upd (upd (upd (upd N0 w1 (.tup [.int 0])) w2 (.tup (List.replicate ((g : Int) + (1500 + mm)).toNat (V.int 0)))) w3 (.tup [.int (-1), .int (-1)])) w4 (.tup [.ref w3])) w5 (.tup (List.replicate (1500 + mm).toNat (V.ref w3)))) w6 (.tup [.ref w2, .ref w5])) := ((Ka.trans (Keep.new gw3)).trans Kc).trans (Keep.new gw6)
        have hw2e := ofP Dd (Keep.new (p := p) gw6 (o := (.tup [.ref w2, .ref w5]))) hw2'
        have hw5e : SqT K (upd (upd (upd (upd (upd (upd N0 w1 (.tup [.int 0])) w2 (.tup (List.replicate ((g : Int) + (1500 + mm)).toNat (V.int 0)))) w3 (.tup [.int (-1), .int (-1)])) w4 (.tup [.ref w3])) w5 (.tup (List.replicate (1500 + mm).toNat (V.ref w3)))) w6 (.tup [.ref w2, .ref w5])) w5 (List.replicate k (V.ref w3)) := ofP Dd (Keep.new (p := p) gw6 (o := (.tup [.ref w2, .ref w5]))) hw5
        have alre := (Keep.new (p := p) gw6 (o := (.tup [.ref w2, .ref w5]))).all alr
        have hw6 : (upd (upd (upd (upd (upd (upd N0 w1 (.tup [.int 0])) w2 (.tup (List.replicate ((g : Int) + (1500 + mm)).toNat (V.int 0)))) w3 (.tup [.int (-1), .int (-1)])) w4 (.tup [.ref w3])) w5 (.tup (List.replicate (1500 + mm).toNat (V.ref w3)))) w6 (.tup [.ref w2, .ref w5])) w6 = some (.tup [.ref w2, .ref w5]) := upd_same
        clear dw3 dw3' hw2 hw2' hw5 alr Dd Dc Db Da Kc Ka
        generalize (upd (upd (upd (upd (upd (upd N0 w1 (.tup [.int 0])) w2 (.tup (List.replicate ((g : Int) + (1500 + mm)).toNat (V.int 0)))) w3 (.tup [.int (-1), .int (-1)])) w4 (.tup [.ref w3])) w5 (.tup (List.replicate (1500 + mm).toNat (V.ref w3)))) w6 (.tup [.ref w2, .ref w5])) = N6 at *
        refine ⟨_, rfl, _, rfl, _, rfl, w6, _, 0, _, rfl, rfl, SqT.of hw6, rfl, _, rfl, w6, _, 1, _, rfl, rfl, SqT.of hw6, rfl, 1, rfl, -1, rfl, w5, _, rfl, hw5e, fun w7 N7 c7 s7 => ?_⟩
        have c7' : SqT K N7 w7 (List.replicate (k - 1) (V.ref w3)) := by
          have e : cutV (List.replicate k (V.ref w3)) none (some (-1)) = List.replicate (k - 1) (V.ref w3) := by
            rw [cut_init (by rw [List.length_replicate]; omega), List.length_replicate, List.take_replicate, Nat.min_eq_left (by omega)]
          rw [← e]
          exact c7
        have K67 : Keep p N6 N7 := Keep.of_same s7
        have Dg := De.of_same s7
        refine ⟨by show 2 ≤ sizeLine; decide, fun w8 gw8 => ⟨by show 1 ≤ sizeLine; decide, fun w9 gw9 => ?_⟩⟩
        have d8 : Dt K p (upd N7 w8 (.tup [.int 0, .int 1])) (.ref w8) (pairD (0, 1)) := dt_tup (Dg.ne_new gw8) gw8 (.cons (.int _) (.cons (.int _) .nil))
        have Dh := Dg.put gw8 (o := .tup [.int 0, .int 1])
        have S79 : Same N7 (upd (upd N7 w8 (.tup [.int 0, .int 1])) w9 (.tup [.ref w8])) := (same_new gw8).trans (same_new gw9)
        refine ⟨w7, w9, _, _, rfl, rfl, sameT S79 c7', SqT.of upd_same, big (by rw [List.length_replicate, List.length_singleton]; omega), fun w10 N10 c10 s10 => ?_⟩
        have S710 := S79.trans s10
        have K610 : Keep p N6 N10 := K67.trans (Keep.of_same S710)
        have Di := Dg.of_same S710
        have d8' : Dt K p N10 (.ref w8) (pairD (0, 1)) := (Keep.of_same ((same_new gw9).trans s10)).dt d8
        have al10 : DpAll K (off p N10) (List.replicate (k - 1) (V.ref w3) ++ [.ref w8]) ((List.replicate (k - 1) (-1, -1) ++ [(0, 1)]).map pairD) := by
          rw [List.map_append]
          refine dpAll_append ?_ (.cons d8' .nil)
          have q := dpAll_take (k - 1) (K610.all alre)
          rw [List.take_replicate, Nat.min_eq_left (by omega), ← List.map_take, List.take_replicate, Nat.min_eq_left (by omega)] at q
          exact q
        refine ⟨by show 2 ≤ sizeLine; decide, fun w11 gw11 => ⟨by show 2 ≤ sizeLine; decide, fun l2 gl2 => ?_⟩⟩
        have d11 : Dt K p (upd N10 w11 (.tup [.ref w2, .ref w10])) (.ref w11) (storyT (List.replicate (g + k) 0) (List.replicate (k - 1) (-1, -1) ++ [(0, 1)])) := dt_tup (Di.ne_new gw11) gw11 (.cons (dt_of Di (ofP De K610 hw2e) (ints_dp _)) (.cons (dt_of Di c10 al10) .nil))
        have Dj := Di.put gw11 (o := .tup [.ref w2, .ref w10])
        have Kj : Keep p M13 (upd N10 w11 (.tup [.ref w2, .ref w10])) := (Kd.trans K610).trans (Keep.new gw11)
        have d6j : Dt K p (upd N10 w11 (.tup [.ref w2, .ref w10])) (.ref w6) _ := (K610.trans (Keep.new gw11)).dt d6
        generalize upd N10 w11 (.tup [.ref w2, .ref w10]) = N11 at *
        have hL5 := Kj.at L20 hL4
        have Dk := Dj.put gl2 (o := .lst [.ref w6, .ref w11])
        refine ⟨L2, l2, _, _, rfl, rfl, same_new gl2 _ _ hL5, upd_same, by show 9 ≤ sizeLine; decide, fun L3 gL3 => ?_⟩
        have Kl : Keep p N11 (upd (upd N11 l2 (.lst [.ref w6, .ref w11])) L3 (.lst ([.ref st, vA, vB, vC, vD, .ref u2, .ref u4] ++ [.ref w6, .ref w11]))) := (Keep.new gl2).trans (Keep.new gL3)
        have al9 := dpAll_append ((Kj.trans Kl).all al7) (.cons (Kl.dt d6j) (.cons (Kl.dt d11) .nil))
        have in0 : ∀ j : Nat, InZ z (List.replicate j 0) := fun j x hx => by rw [List.eq_of_mem_replicate hx]; omega
        have inM : ∀ j : Nat, PairsIn z (List.replicate j (-1, -1)) := fun j x hx => by rw [List.eq_of_mem_replicate hx]; refine ⟨by decide, ?_, by decide, ?_⟩ <;> (show (-1 : Int) < z; omega)
        refine ⟨L3, _, _, _, rfl, upd_same, Dk.ne_new gL3, al9, fun d hd => ?_, Dk.put gL3, Kj.trans Kl⟩
        rcases List.mem_append.mp hd with h | h
        · exact ok7 d h
        · simp only [List.mem_cons, List.not_mem_nil, or_false] at h
          rcases h with e | e <;> rw [e]
          · exact .story z4 (in0 _) (inM _) (by rw [List.length_replicate]; omega) (by rw [List.length_replicate, List.length_replicate]; omega)
          · exact .story z4 (in0 _) ((inM _).app (.one ⟨by decide, by show (0 : Int) < z; omega, by decide, by show (1 : Int) < z; omega⟩)) (by rw [List.length_replicate]; omega) (by rw [List.length_replicate, List.length_append, List.length_replicate, List.length_singleton]; omega)
      · rintro σ' J8 ⟨LV, vs, ds, y, rfl, hLV, LV0, alV, okV, D15, K15⟩
        have KH := (K3.trans K4).trans (K413.trans K15)
        have hBt : ∀ e : PyData, e.shown = (storyT cs1 ps).shown → storyD z r g rs e = true := fun e h => by
          rw [shown_inj (storyT_pure cs1 ps) h]
          exact hTrue
        have vSt : Val16 (storyT cs1 ps) := .story z4 inC1 inP (by omega) (by omega)
        obtain ⟨t1', t2', t3'⟩ := vSt.ti.shows (by decide) (by decide) (by decide)
        refine ⟨_, rfl, LV, rfl, ⟨_, SqL.of hLV⟩, for_list (K := K) (a := LV) (xs := vs) (fun k σ' J' => (Keep p J8 J' ∧ Deck K J' p (n10 + 2)) ∧ ∃ z13 z14 z15, σ' = [some (.ref a), some (.ref p), some (.int (0 + (i : Int))), some (.ref th), some (.ref ta'), some (.ref tc), some (.ref F), some (.ref ta), some (.bl sv), some (.ref st), some (.ref LV), some (.int (1500 + mm)), y, z13, z14, z15])
          ⟨⟨Keep.refl p J8, D15⟩, _, _, _, rfl⟩ (fun k σ' J' _ ⟨⟨S, _⟩, _⟩ => SqL.of (S.at LV0 hLV)) ?_ ?_⟩
        · rintro k' x' σ' J0 hx ⟨⟨S, DS⟩, z13, z14, z15, rfl⟩
          obtain ⟨e, he, xd'⟩ := dpAll_get alV hx
          have vk := okV e (List.mem_of_getElem? he)
          obtain ⟨s1', s2', s3'⟩ := vk.ti.shows (by decide) (by decide) (by decide)
          have hBe := hBt e
          have xdOf : ∀ J, Keep p J0 J → Dp K J x' e := fun J k => dpSame off_in e x' ((S.trans k).dt xd')
          have hvOf : ∀ J, Keep p J0 J → Dp K J (.ref ta') (tableD rs) := fun J k => dpSame off_in _ _ (((K15.trans S).trans k).dt hv13)
          have thOf : ∀ J, Keep p J0 J → SqT K J th [.int z, .int r, .int (g : Int)] := fun J k => SqT.of (((K15.trans S).trans k).at th0 ht13)
          have stOf : ∀ J, Keep p J0 J → Dp K J (.ref st) (storyT cs1 ps) := fun J k => dpSame off_in _ _ (((K15.trans S).trans k).dt dst13)
          have tA : ∀ J, Keep p J0 J → GxR.TabG J T.p_heads_back := fun J k => ((KH.trans S).trans k).t.tab hA
          have tB : ∀ J, Keep p J0 J → GxR.TabG J T.p_tellings := fun J k => ((KH.trans S).trans k).t.tab hB
          have tC' : ∀ J, Keep p J0 J → GxR.TabG J T.p_changes_of := fun J k => ((KH.trans S).trans k).t.tab hC
          have r0 : 0 < rs.length := by omega
          have g50 : g < 50 := by omega
          have wE : wt e ≤ 20000 := Nat.le_trans vk.ti.we (by decide)
          obtain ⟨b1, b2, b3⟩ := show_two (storyD z r g rs e)
          refine ⟨_, rfl, x', e, rfl, xdOf _ (Keep.refl p J0), s1', s2', s3', ?_⟩
          refine ⟨_, rfl, _, rfl, _, rfl, th, .ref ta', x', z, r, g, rs, e, rfl, thOf _ (Keep.refl p J0), hvOf _ (Keep.refl p J0), xdOf _ (Keep.refl p J0), vk.parts, g50, hrs, r0, z2, z4, fun J1 T1 => ⟨_, _, rfl, ?_⟩⟩
          have R1 : Grow J0 J1 := Grow.of_same T1
          have S1' : Keep p J0 J1 := Keep.of_grow R1
          refine ⟨_, rfl, _, rfl, _, rfl, th, .ref ta', x', z, r, g, rs, e, rfl, thOf _ S1', hvOf _ S1', xdOf _ S1', wE, vk.le, g50, hrs, r0, z2, z4, tA _ S1', tB _ S1', tC' _ S1', fun J2 G2 => ⟨by show 1 ≤ sizeLine; decide, fun w1 v1 => ?_⟩⟩
          have R2 := R1.trans (G2.trans (Grow.new v1 (o := .lst [.bl (storyD z r g rs e)])))
          refine ⟨w1, 2, _, rfl, rfl, upd_same, by decide, by decide, by show 1 * 2 ≤ sizeLine; decide, fun w2 v2 => ?_⟩
          have R3 := R2.trans (Grow.new v2 (o := .lst [.bl (storyD z r g rs e), .bl (storyD z r g rs e)]))
          have S3' := Keep.of_grow (p := p) R3
          refine ⟨.ref w2, .list [.bool (storyD z r g rs e), .bool (storyD z r g rs e)], rfl, .lst (SqL.of upd_same) (.cons (.bl _) (.cons (.bl _) .nil)), b1, b2, b3, ?_⟩
          refine ⟨_, rfl, _, rfl, _, rfl, _, rfl, th, .ref ta', x', z, r, g, rs, e, rfl, thOf _ S3', hvOf _ S3', xdOf _ S3', wE, vk.le, g50, hrs, r0, z2, z4, tA _ S3', tB _ S3', tC' _ S3', fun J3 G3 => ⟨by show 2 ≤ sizeLine; decide, fun w3 v3 => ?_⟩⟩
          have R4 := R3.trans (G3.trans (Grow.new v3 (o := .lst [.bl (storyD z r g rs e), .bl (storyD z r g rs e)])))
          have S4' := Keep.of_grow (p := p) R4
          refine ⟨.ref w3, .list [.bool (storyD z r g rs e), .bool (storyD z r g rs e)], rfl, .lst (SqL.of upd_same) (.cons (.bl _) (.cons (.bl _) .nil)), b1, b2, b3, rfl, _, rfl, ?_⟩
          refine iteNS rfl ?_
          have fin : ∀ q1 q2 q3 : Option V, (Keep p J8 (upd J3 w3 (.lst [.bl (storyD z r g rs e), .bl (storyD z r g rs e)])) ∧ Deck K (upd J3 w3 (.lst [.bl (storyD z r g rs e), .bl (storyD z r g rs e)])) p (n10 + 2)) ∧ ∃ z13 z14 z15, [some (.ref a), some (.ref p), some (.int (0 + (i : Int))), some (.ref th), some (.ref ta'), some (.ref tc), some (.ref F), some (.ref ta), some (.bl sv), some (.ref st), some (.ref LV), some (.int (1500 + mm)), y, q1, q2, q3] = [some (.ref a), some (.ref p), some (.int (0 + (i : Int))), some (.ref th), some (.ref ta'), some (.ref tc), some (.ref F), some (.ref ta), some (.bl sv), some (.ref st), some (.ref LV), some (.int (1500 + mm)), y, z13, z14, z15] := fun q1 q2 q3 => ⟨⟨S.trans S4', DS.of_grow R4⟩, q1, q2, q3, rfl⟩
          refine ⟨_, rfl, x', e, rfl, xdOf _ S4', s1', s2', s3', _, rfl, rfl, _, rfl, ite2 (fun h => ?_) (fun _ => ?_)⟩
          · exfalso
            simp at h
          refine ⟨_, rfl, _, rfl, .ref st, storyT cs1 ps, rfl, stOf _ S4', t1', t2', t3', rfl, _, rfl, ite2 (fun h => ?_) (fun _ => fin _ _ _)⟩
          refine ⟨_, rfl, _, true, rfl, rfl, _, rfl, ite2 (fun h2 => ?_) (fun _ => fin _ _ _)⟩
          exfalso
          have hs : e.shown = (storyT cs1 ps).shown := by
            have h' := of_decide_eq_true h
            exact V.str.inj h'
          rw [hBe hs] at h2
          simp at h2
        · rintro σ' J0 ⟨⟨S, DS⟩, z13, z14, z15, rfl⟩
          have KF := KH.trans S
          exact ⟨⟨_, _, _, _, _, _, _, _, _, _, _, _, _, _, rfl⟩, ⟨KF.t.tab hA, KF.t.tab hB, KF.t.tab hC⟩, n10 + 2, by omega, DS⟩
  · rintro σ H2 ⟨⟨y2, y3, y4, y5, y6, y7, y8, y9, y10, y11, y12, y13, y14, y15, rfl⟩, _, n, hn, D2⟩
    rfl
end

theorem all_mk {l : PySem.W.OpenLaw} {w : World} {K : PySem.W.Frag} {h : Heap} {mg : Str → Option Value} {fa : Addr} (X : K.In h) (G : h.Ns mainGlobals mg) (hfa : mg "law" = some (.ref fa))
    {f0 : Addr} {od0 an0 : Option Addr} {sl0 : Array (Option Value)} {oc0 kV0 dc0 pm0 ct0 : Value} {cd0 : Value}
    (a0 : PySem.W.nsIn K mainGlobals "whole" = some (some (.ref f0))) (l0 : K.lookup f0 = some ⟨oc0, od0, .func (PySem.W.fnOf "whole" "whole" (defArgs s_whole) (defBody s_whole) (defScope s_whole) .none kV0 dc0 pm0 an0 cd0 ct0), sl0⟩) (c0 : PySem.W.codeIn K cd0 "whole" = true) (k0 : PySem.W.keepIn K (.ref f0) = true)
    {f1 : Addr} {od1 an1 : Option Addr} {sl1 : Array (Option Value)} {oc1 kV1 dc1 pm1 ct1 : Value} {cd1 : Value}
    (a1 : PySem.W.nsIn K mainGlobals "tuple_of" = some (some (.ref f1))) (l1 : K.lookup f1 = some ⟨oc1, od1, .func (PySem.W.fnOf "tuple_of" "tuple_of" (defArgs s_tuple_of) (defBody s_tuple_of) (defScope s_tuple_of) .none kV1 dc1 pm1 an1 cd1 ct1), sl1⟩) (c1 : PySem.W.codeIn K cd1 "tuple_of" = true) (k1 : PySem.W.keepIn K (.ref f1) = true)
    {f2 : Addr} {od2 an2 : Option Addr} {sl2 : Array (Option Value)} {oc2 kV2 dc2 pm2 ct2 : Value} {cc2 pp2 : Addr} {oo2 : Obj}
    (a2 : PySem.W.nsIn K mainGlobals "changes_of" = some (some (.ref f2))) (l2 : K.lookup f2 = some ⟨oc2, od2, .func (PySem.W.fnOf "changes_of" "changes_of" (defArgs s_changes_of) (defBody s_changes_of) (defScope s_changes_of) .none kV2 dc2 pm2 an2 (.ref cc2) ct2), sl2⟩) (c2 : PySem.W.codeIn K (.ref cc2) "changes_of" = true) (k2 : PySem.W.keepIn K (.ref f2) = true)
    (u2 : K.lookup cc2 = some oo2) (v2 : TabField oo2 pp2) (y2 : K.lookup pp2 = none) (tk2 : CodeKnown mg h "changes_of")
    {f3 : Addr} {od3 an3 : Option Addr} {sl3 : Array (Option Value)} {oc3 kV3 dc3 pm3 ct3 : Value} {cd3 : Value}
    (a3 : PySem.W.nsIn K mainGlobals "is_course" = some (some (.ref f3))) (l3 : K.lookup f3 = some ⟨oc3, od3, .func (PySem.W.fnOf "is_course" "is_course" (defArgs s_is_course) (defBody s_is_course) (defScope s_is_course) .none kV3 dc3 pm3 an3 cd3 ct3), sl3⟩) (c3 : PySem.W.codeIn K cd3 "is_course" = true) (k3 : PySem.W.keepIn K (.ref f3) = true)
    {f4 : Addr} {od4 an4 : Option Addr} {sl4 : Array (Option Value)} {oc4 kV4 dc4 pm4 ct4 : Value} {cc4 pp4 : Addr} {oo4 : Obj}
    (a4 : PySem.W.nsIn K mainGlobals "heads_back" = some (some (.ref f4))) (l4 : K.lookup f4 = some ⟨oc4, od4, .func (PySem.W.fnOf "heads_back" "heads_back" (defArgs s_heads_back) (defBody s_heads_back) (defScope s_heads_back) .none kV4 dc4 pm4 an4 (.ref cc4) ct4), sl4⟩) (c4 : PySem.W.codeIn K (.ref cc4) "heads_back" = true) (k4 : PySem.W.keepIn K (.ref f4) = true)
    (u4 : K.lookup cc4 = some oo4) (v4 : TabField oo4 pp4) (y4 : K.lookup pp4 = none) (tk4 : CodeKnown mg h "heads_back")
    {f5 : Addr} {od5 an5 : Option Addr} {sl5 : Array (Option Value)} {oc5 kV5 dc5 pm5 ct5 : Value} {cd5 : Value}
    (a5 : PySem.W.nsIn K mainGlobals "named_by" = some (some (.ref f5))) (l5 : K.lookup f5 = some ⟨oc5, od5, .func (PySem.W.fnOf "named_by" "named_by" (defArgs s_named_by) (defBody s_named_by) (defScope s_named_by) .none kV5 dc5 pm5 an5 cd5 ct5), sl5⟩) (c5 : PySem.W.codeIn K cd5 "named_by" = true) (k5 : PySem.W.keepIn K (.ref f5) = true)
    {f6 : Addr} {od6 an6 : Option Addr} {sl6 : Array (Option Value)} {oc6 kV6 dc6 pm6 ct6 : Value} {cd6 : Value}
    (a6 : PySem.W.nsIn K mainGlobals "asks" = some (some (.ref f6))) (l6 : K.lookup f6 = some ⟨oc6, od6, .func (PySem.W.fnOf "asks" "asks" (defArgs s_asks) (defBody s_asks) (defScope s_asks) .none kV6 dc6 pm6 an6 cd6 ct6), sl6⟩) (c6 : PySem.W.codeIn K cd6 "asks" = true) (k6 : PySem.W.keepIn K (.ref f6) = true)
    {f7 : Addr} {od7 an7 : Option Addr} {sl7 : Array (Option Value)} {oc7 kV7 dc7 pm7 ct7 : Value} {cd7 : Value}
    (a7 : PySem.W.nsIn K mainGlobals "behind" = some (some (.ref f7))) (l7 : K.lookup f7 = some ⟨oc7, od7, .func (PySem.W.fnOf "behind" "behind" (defArgs s_behind) (defBody s_behind) (defScope s_behind) .none kV7 dc7 pm7 an7 cd7 ct7), sl7⟩) (c7 : PySem.W.codeIn K cd7 "behind" = true) (k7 : PySem.W.keepIn K (.ref f7) = true)
    {f8 : Addr} {od8 an8 : Option Addr} {sl8 : Array (Option Value)} {oc8 kV8 dc8 pm8 ct8 : Value} {cc8 pp8 : Addr} {oo8 : Obj}
    (a8 : PySem.W.nsIn K mainGlobals "tellings" = some (some (.ref f8))) (l8 : K.lookup f8 = some ⟨oc8, od8, .func (PySem.W.fnOf "tellings" "tellings" (defArgs s_tellings) (defBody s_tellings) (defScope s_tellings) .none kV8 dc8 pm8 an8 (.ref cc8) ct8), sl8⟩) (c8 : PySem.W.codeIn K (.ref cc8) "tellings" = true) (k8 : PySem.W.keepIn K (.ref f8) = true)
    (u8 : K.lookup cc8 = some oo8) (v8 : TabField oo8 pp8) (y8 : K.lookup pp8 = none) (tk8 : CodeKnown mg h "tellings")
    {f9 : Addr} {od9 an9 : Option Addr} {sl9 : Array (Option Value)} {oc9 kV9 dc9 pm9 ct9 : Value} {cd9 : Value}
    (a9 : PySem.W.nsIn K mainGlobals "is_telling" = some (some (.ref f9))) (l9 : K.lookup f9 = some ⟨oc9, od9, .func (PySem.W.fnOf "is_telling" "is_telling" (defArgs s_is_telling) (defBody s_is_telling) (defScope s_is_telling) .none kV9 dc9 pm9 an9 cd9 ct9), sl9⟩) (c9 : PySem.W.codeIn K cd9 "is_telling" = true) (k9 : PySem.W.keepIn K (.ref f9) = true)
    {f10 : Addr} {od10 an10 : Option Addr} {sl10 : Array (Option Value)} {oc10 kV10 dc10 pm10 ct10 : Value} {cd10 : Value}
    (a10 : PySem.W.nsIn K mainGlobals "is_play" = some (some (.ref f10))) (l10 : K.lookup f10 = some ⟨oc10, od10, .func (PySem.W.fnOf "is_play" "is_play" (defArgs s_is_play) (defBody s_is_play) (defScope s_is_play) .none kV10 dc10 pm10 an10 cd10 ct10), sl10⟩) (c10 : PySem.W.codeIn K cd10 "is_play" = true) (k10 : PySem.W.keepIn K (.ref f10) = true)
    {f11 : Addr} {od11 an11 : Option Addr} {sl11 : Array (Option Value)} {oc11 kV11 dc11 pm11 ct11 : Value} {cd11 : Value}
    (a11 : PySem.W.nsIn K mainGlobals "is_story" = some (some (.ref f11))) (l11 : K.lookup f11 = some ⟨oc11, od11, .func (PySem.W.fnOf "is_story" "is_story" (defArgs s_is_story) (defBody s_is_story) (defScope s_is_story) .none kV11 dc11 pm11 an11 cd11 ct11), sl11⟩) (c11 : PySem.W.codeIn K cd11 "is_story" = true) (k11 : PySem.W.keepIn K (.ref f11) = true)
    {f12 : Addr} {od12 an12 : Option Addr} {sl12 : Array (Option Value)} {oc12 kV12 dc12 pm12 ct12 : Value} {cd12 : Value}
    (a12 : PySem.W.nsIn K mainGlobals "_law_deck" = some (some (.ref f12))) (l12 : K.lookup f12 = some ⟨oc12, od12, .func (PySem.W.fnOf "_law_deck" "_law_deck" (defArgs s_deck) (defBody s_deck) (defScope s_deck) .none kV12 dc12 pm12 an12 cd12 ct12), sl12⟩) (c12 : PySem.W.codeIn K cd12 "_law_deck" = true) (k12 : PySem.W.keepIn K (.ref f12) = true)
    {f13 : Addr} {od13 an13 : Option Addr} {sl13 : Array (Option Value)} {oc13 kV13 dc13 pm13 ct13 : Value} {cd13 : Value}
    (a13 : PySem.W.nsIn K mainGlobals "_law_draw" = some (some (.ref f13))) (l13 : K.lookup f13 = some ⟨oc13, od13, .func (PySem.W.fnOf "_law_draw" "_law_draw" (defArgs s_draw) (defBody s_draw) (defScope s_draw) .none kV13 dc13 pm13 an13 cd13 ct13), sl13⟩) (c13 : PySem.W.codeIn K cd13 "_law_draw" = true) (k13 : PySem.W.keepIn K (.ref f13) = true)
    {f14 : Addr} {od14 an14 : Option Addr} {sl14 : Array (Option Value)} {oc14 kV14 dc14 pm14 ct14 : Value} {cd14 : Value}
    (a14 : PySem.W.nsIn K mainGlobals "_law_one" = some (some (.ref f14))) (l14 : K.lookup f14 = some ⟨oc14, od14, .func (PySem.W.fnOf "_law_one" "_law_one" (defArgs s_one) (defBody s_one) (defScope s_one) .none kV14 dc14 pm14 an14 cd14 ct14), sl14⟩) (c14 : PySem.W.codeIn K cd14 "_law_one" = true) (k14 : PySem.W.keepIn K (.ref f14) = true)
    {f15 : Addr} {od15 an15 : Option Addr} {sl15 : Array (Option Value)} {oc15 kV15 dc15 pm15 ct15 : Value} {cd15 : Value}
    (a15 : PySem.W.nsIn K mainGlobals "_law_power" = some (some (.ref f15))) (l15 : K.lookup f15 = some ⟨oc15, od15, .func (PySem.W.fnOf "_law_power" "_law_power" (defArgs s_power) (defBody s_power) (defScope s_power) .none kV15 dc15 pm15 an15 cd15 ct15), sl15⟩) (c15 : PySem.W.codeIn K cd15 "_law_power" = true) (k15 : PySem.W.keepIn K (.ref f15) = true)
    {f16 : Addr} {od16 an16 : Option Addr} {sl16 : Array (Option Value)} {oc16 kV16 dc16 pm16 ct16 : Value} {cd16 : Value}
    (a16 : PySem.W.nsIn K mainGlobals "_law_house" = some (some (.ref f16))) (l16 : K.lookup f16 = some ⟨oc16, od16, .func (PySem.W.fnOf "_law_house" "_law_house" (defArgs s_house) (defBody s_house) (defScope s_house) .none kV16 dc16 pm16 an16 cd16 ct16), sl16⟩) (c16 : PySem.W.codeIn K cd16 "_law_house" = true) (k16 : PySem.W.keepIn K (.ref f16) = true)
    {f17 : Addr} {od17 an17 : Option Addr} {sl17 : Array (Option Value)} {oc17 kV17 dc17 pm17 ct17 : Value} {cd17 : Value}
    (a17 : PySem.W.nsIn K mainGlobals "_law_rest_kept" = some (some (.ref f17))) (l17 : K.lookup f17 = some ⟨oc17, od17, .func (PySem.W.fnOf "_law_rest_kept" "_law_rest_kept" (defArgs s_rest_kept) (defBody s_rest_kept) (defScope s_rest_kept) .none kV17 dc17 pm17 an17 cd17 ct17), sl17⟩) (c17 : PySem.W.codeIn K cd17 "_law_rest_kept" = true) (k17 : PySem.W.keepIn K (.ref f17) = true)
    {f18 : Addr} {od18 an18 : Option Addr} {sl18 : Array (Option Value)} {oc18 kV18 dc18 pm18 ct18 : Value} {cd18 : Value}
    (a18 : PySem.W.nsIn K mainGlobals "_law_course" = some (some (.ref f18))) (l18 : K.lookup f18 = some ⟨oc18, od18, .func (PySem.W.fnOf "_law_course" "_law_course" (defArgs s_course) (defBody s_course) (defScope s_course) .none kV18 dc18 pm18 an18 cd18 ct18), sl18⟩) (c18 : PySem.W.codeIn K cd18 "_law_course" = true) (k18 : PySem.W.keepIn K (.ref f18) = true)
    {f19 : Addr} {od19 an19 : Option Addr} {sl19 : Array (Option Value)} {oc19 kV19 dc19 pm19 ct19 : Value} {cd19 : Value}
    (a19 : PySem.W.nsIn K mainGlobals "_law_names" = some (some (.ref f19))) (l19 : K.lookup f19 = some ⟨oc19, od19, .func (PySem.W.fnOf "_law_names" "_law_names" (defArgs s_names) (defBody s_names) (defScope s_names) .none kV19 dc19 pm19 an19 cd19 ct19), sl19⟩) (c19 : PySem.W.codeIn K cd19 "_law_names" = true) (k19 : PySem.W.keepIn K (.ref f19) = true)
    {f20 : Addr} {od20 an20 : Option Addr} {sl20 : Array (Option Value)} {oc20 kV20 dc20 pm20 ct20 : Value} {cd20 : Value}
    (a20 : PySem.W.nsIn K mainGlobals "_law_table" = some (some (.ref f20))) (l20 : K.lookup f20 = some ⟨oc20, od20, .func (PySem.W.fnOf "_law_table" "_law_table" (defArgs s_table) (defBody s_table) (defScope s_table) .none kV20 dc20 pm20 an20 cd20 ct20), sl20⟩) (c20 : PySem.W.codeIn K cd20 "_law_table" = true) (k20 : PySem.W.keepIn K (.ref f20) = true)
    {f21 : Addr} {od21 an21 : Option Addr} {sl21 : Array (Option Value)} {oc21 kV21 dc21 pm21 ct21 : Value} {cd21 : Value}
    (a21 : PySem.W.nsIn K mainGlobals "_law_asked" = some (some (.ref f21))) (l21 : K.lookup f21 = some ⟨oc21, od21, .func (PySem.W.fnOf "_law_asked" "_law_asked" (defArgs s_asked) (defBody s_asked) (defScope s_asked) .none kV21 dc21 pm21 an21 cd21 ct21), sl21⟩) (c21 : PySem.W.codeIn K cd21 "_law_asked" = true) (k21 : PySem.W.keepIn K (.ref f21) = true)
    {f22 : Addr} {od22 an22 : Option Addr} {sl22 : Array (Option Value)} {oc22 kV22 dc22 pm22 ct22 : Value} {cd22 : Value}
    (a22 : PySem.W.nsIn K mainGlobals "_law_later" = some (some (.ref f22))) (l22 : K.lookup f22 = some ⟨oc22, od22, .func (PySem.W.fnOf "_law_later" "_law_later" (defArgs s_later) (defBody s_later) (defScope s_later) .none kV22 dc22 pm22 an22 cd22 ct22), sl22⟩) (c22 : PySem.W.codeIn K cd22 "_law_later" = true) (k22 : PySem.W.keepIn K (.ref f22) = true)
    {f23 : Addr} {od23 an23 : Option Addr} {sl23 : Array (Option Value)} {oc23 kV23 dc23 pm23 ct23 : Value} {cd23 : Value}
    (a23 : PySem.W.nsIn K mainGlobals "_law_play" = some (some (.ref f23))) (l23 : K.lookup f23 = some ⟨oc23, od23, .func (PySem.W.fnOf "_law_play" "_law_play" (defArgs s_play) (defBody s_play) (defScope s_play) .none kV23 dc23 pm23 an23 cd23 ct23), sl23⟩) (c23 : PySem.W.codeIn K cd23 "_law_play" = true) (k23 : PySem.W.keepIn K (.ref f23) = true)
    {f24 : Addr} {od24 an24 : Option Addr} {sl24 : Array (Option Value)} {oc24 kV24 dc24 pm24 ct24 : Value} {cd24 : Value}
    (a24 : PySem.W.nsIn K mainGlobals "_law_odd" = some (some (.ref f24))) (l24 : K.lookup f24 = some ⟨oc24, od24, .func (PySem.W.fnOf "_law_odd" "_law_odd" (defArgs s_odd) (defBody s_odd) (defScope s_odd) .none kV24 dc24 pm24 an24 cd24 ct24), sl24⟩) (c24 : PySem.W.codeIn K cd24 "_law_odd" = true) (k24 : PySem.W.keepIn K (.ref f24) = true)
    {f25 : Addr} {od25 an25 : Option Addr} {sl25 : Array (Option Value)} {oc25 kV25 dc25 pm25 ct25 : Value} {cd25 : Value}
    (a25 : PySem.W.nsIn K mainGlobals "_law_bent" = some (some (.ref f25))) (l25 : K.lookup f25 = some ⟨oc25, od25, .func (PySem.W.fnOf "_law_bent" "_law_bent" (defArgs s_bent) (defBody s_bent) (defScope s_bent) .none kV25 dc25 pm25 an25 cd25 ct25), sl25⟩) (c25 : PySem.W.codeIn K cd25 "_law_bent" = true) (k25 : PySem.W.keepIn K (.ref f25) = true)
    {f26 : Addr} {od26 an26 : Option Addr} {sl26 : Array (Option Value)} {oc26 kV26 dc26 pm26 ct26 : Value} {cd26 : Value}
    (a26 : PySem.W.nsIn K mainGlobals "_law_both" = some (some (.ref f26))) (l26 : K.lookup f26 = some ⟨oc26, od26, .func (PySem.W.fnOf "_law_both" "_law_both" (defArgs s_both) (defBody s_both) (defScope s_both) .none kV26 dc26 pm26 an26 cd26 ct26), sl26⟩) (c26 : PySem.W.codeIn K cd26 "_law_both" = true) (k26 : PySem.W.keepIn K (.ref f26) = true)
    {f27 : Addr} {od27 an27 : Option Addr} {sl27 : Array (Option Value)} {oc27 kV27 dc27 pm27 ct27 : Value} {cd27 : Value}
    (a27 : PySem.W.nsIn K mainGlobals "_law_is_int" = some (some (.ref f27))) (l27 : K.lookup f27 = some ⟨oc27, od27, .func (PySem.W.fnOf "_law_is_int" "_law_is_int" (defArgs s_is_int) (defBody s_is_int) (defScope s_is_int) .none kV27 dc27 pm27 an27 cd27 ct27), sl27⟩) (c27 : PySem.W.codeIn K cd27 "_law_is_int" = true) (k27 : PySem.W.keepIn K (.ref f27) = true)
    {f28 : Addr} {od28 an28 : Option Addr} {sl28 : Array (Option Value)} {oc28 kV28 dc28 pm28 ct28 : Value} {cd28 : Value}
    (a28 : PySem.W.nsIn K mainGlobals "_law_is_course" = some (some (.ref f28))) (l28 : K.lookup f28 = some ⟨oc28, od28, .func (PySem.W.fnOf "_law_is_course" "_law_is_course" (defArgs s_l_is_course) (defBody s_l_is_course) (defScope s_l_is_course) .none kV28 dc28 pm28 an28 cd28 ct28), sl28⟩) (c28 : PySem.W.codeIn K cd28 "_law_is_course" = true) (k28 : PySem.W.keepIn K (.ref f28) = true)
    {f29 : Addr} {od29 an29 : Option Addr} {sl29 : Array (Option Value)} {oc29 kV29 dc29 pm29 ct29 : Value} {cd29 : Value}
    (a29 : PySem.W.nsIn K mainGlobals "_law_is_pair" = some (some (.ref f29))) (l29 : K.lookup f29 = some ⟨oc29, od29, .func (PySem.W.fnOf "_law_is_pair" "_law_is_pair" (defArgs s_is_pair) (defBody s_is_pair) (defScope s_is_pair) .none kV29 dc29 pm29 an29 cd29 ct29), sl29⟩) (c29 : PySem.W.codeIn K cd29 "_law_is_pair" = true) (k29 : PySem.W.keepIn K (.ref f29) = true)
    {f30 : Addr} {od30 an30 : Option Addr} {sl30 : Array (Option Value)} {oc30 kV30 dc30 pm30 ct30 : Value} {cd30 : Value}
    (a30 : PySem.W.nsIn K mainGlobals "_law_is_story" = some (some (.ref f30))) (l30 : K.lookup f30 = some ⟨oc30, od30, .func (PySem.W.fnOf "_law_is_story" "_law_is_story" (defArgs s_l_is_story) (defBody s_l_is_story) (defScope s_l_is_story) .none kV30 dc30 pm30 an30 cd30 ct30), sl30⟩) (c30 : PySem.W.codeIn K cd30 "_law_is_story" = true) (k30 : PySem.W.keepIn K (.ref f30) = true)
    {f31 : Addr} {od31 an31 : Option Addr} {sl31 : Array (Option Value)} {oc31 kV31 dc31 pm31 ct31 : Value} {cd31 : Value}
    (a31 : PySem.W.nsIn K mainGlobals "_law_otherwise" = some (some (.ref f31))) (l31 : K.lookup f31 = some ⟨oc31, od31, .func (PySem.W.fnOf "_law_otherwise" "_law_otherwise" (defArgs s_otherwise) (defBody s_otherwise) (defScope s_otherwise) .none kV31 dc31 pm31 an31 cd31 ct31), sl31⟩) (c31 : PySem.W.codeIn K cd31 "_law_otherwise" = true) (k31 : PySem.W.keepIn K (.ref f31) = true)
    {f32 : Addr} {od32 an32 : Option Addr} {sl32 : Array (Option Value)} {oc32 kV32 dc32 pm32 ct32 : Value} {cd32 : Value}
    (a32 : PySem.W.nsIn K mainGlobals "law" = some (some (.ref f32))) (l32 : K.lookup f32 = some ⟨oc32, od32, .func (PySem.W.fnOf "law" "law" (defArgs s_law) (defBody s_law) (defScope s_law) .none kV32 dc32 pm32 an32 cd32 ct32), sl32⟩) (c32 : PySem.W.codeIn K cd32 "law" = true) (k32 : PySem.W.keepIn K (.ref f32) = true)
    {p_NEW_ASKER : Addr} {o_NEW_ASKER : Obj} (v_NEW_ASKER : PySem.W.nsIn K mainGlobals "NEW_ASKER" = some (some (.ref p_NEW_ASKER))) (w_NEW_ASKER : K.lookup p_NEW_ASKER = some o_NEW_ASKER) (x_NEW_ASKER : TupOf o_NEW_ASKER [.int (0), .int (0), .int (-1)])
    {p_NONE_ASKED : Addr} {o_NONE_ASKED : Obj} (v_NONE_ASKED : PySem.W.nsIn K mainGlobals "NONE_ASKED" = some (some (.ref p_NONE_ASKED))) (w_NONE_ASKED : K.lookup p_NONE_ASKED = some o_NONE_ASKED) (x_NONE_ASKED : TupOf o_NONE_ASKED [.int (-1), .int (-1)])
    (z_abs : PySem.W.nsIn K mainGlobals "abs" = some none)
    (z_all : PySem.W.nsIn K mainGlobals "all" = some none)
    (z_bool : PySem.W.nsIn K mainGlobals "bool" = some none)
    (z_enumerate : PySem.W.nsIn K mainGlobals "enumerate" = some none)
    (z_int : PySem.W.nsIn K mainGlobals "int" = some none)
    (z_isinstance : PySem.W.nsIn K mainGlobals "isinstance" = some none)
    (z_len : PySem.W.nsIn K mainGlobals "len" = some none)
    (z_list : PySem.W.nsIn K mainGlobals "list" = some none)
    (z_max : PySem.W.nsIn K mainGlobals "max" = some none)
    (z_min : PySem.W.nsIn K mainGlobals "min" = some none)
    (z_range : PySem.W.nsIn K mainGlobals "range" = some none)
    (z_repr : PySem.W.nsIn K mainGlobals "repr" = some none)
    (z_set : PySem.W.nsIn K mainGlobals "set" = some none)
    (z_sorted : PySem.W.nsIn K mainGlobals "sorted" = some none)
    (z_tuple : PySem.W.nsIn K mainGlobals "tuple" = some none)
    (z_zip : PySem.W.nsIn K mainGlobals "zip" = some none)
    : ∃ (fd : FuncData) (cs : List (Addr × Addr)), Fun K "law" "law" s_law fa fd ∧ (∀ (s : Shared) (u : Value), BindsTo s fd ⟨[u], []⟩ [("_law_script", u)]) ∧
      (∀ p ∈ cs, h.get? p.2 = some { cls := .none, data := .fields #[] } ∧ K.lookup p.2 = none ∧ PySem.W.CodeHd h p.1 p.2 ∧ h.IsCode p.1 p.2 #[] ∧ h.TableAt p.1 p.2 #[]) ∧
        ∀ base : Heap, K.In base → (∀ p ∈ cs, GxR.TabB base mg p.1 p.2) → LawDoesT l.prog w K mg base s_law ["_law_script", "_law_deck_here", "_law_lap", "_law_house_here", "_law_table_here", "_law_course_here", "_law_pairs", "_law_asker", "_law_is_served", "_law_story", "_law_values", "_law_many", "_law_long", "_law_value", "_law_held", "_law_due"] fa cs := by
  have e := hfa.symm.trans (PySem.W.mg_of X G a32)
  cases e
  have F0 := fun_mk (st := s_whole) l0 c0 k0
  have F1 := fun_mk (st := s_tuple_of) l1 c1 k1
  have F2 := fun_mk (st := s_changes_of) l2 c2 k2
  have F3 := fun_mk (st := s_is_course) l3 c3 k3
  have F4 := fun_mk (st := s_heads_back) l4 c4 k4
  have F5 := fun_mk (st := s_named_by) l5 c5 k5
  have F6 := fun_mk (st := s_asks) l6 c6 k6
  have F7 := fun_mk (st := s_behind) l7 c7 k7
  have F8 := fun_mk (st := s_tellings) l8 c8 k8
  have F9 := fun_mk (st := s_is_telling) l9 c9 k9
  have F10 := fun_mk (st := s_is_play) l10 c10 k10
  have F11 := fun_mk (st := s_is_story) l11 c11 k11
  have F12 := fun_mk (st := s_deck) l12 c12 k12
  have F13 := fun_mk (st := s_draw) l13 c13 k13
  have F14 := fun_mk (st := s_one) l14 c14 k14
  have F15 := fun_mk (st := s_power) l15 c15 k15
  have F16 := fun_mk (st := s_house) l16 c16 k16
  have F17 := fun_mk (st := s_rest_kept) l17 c17 k17
  have F18 := fun_mk (st := s_course) l18 c18 k18
  have F19 := fun_mk (st := s_names) l19 c19 k19
  have F20 := fun_mk (st := s_table) l20 c20 k20
  have F21 := fun_mk (st := s_asked) l21 c21 k21
  have F22 := fun_mk (st := s_later) l22 c22 k22
  have F23 := fun_mk (st := s_play) l23 c23 k23
  have F24 := fun_mk (st := s_odd) l24 c24 k24
  have F25 := fun_mk (st := s_bent) l25 c25 k25
  have F26 := fun_mk (st := s_both) l26 c26 k26
  have F27 := fun_mk (st := s_is_int) l27 c27 k27
  have F28 := fun_mk (st := s_l_is_course) l28 c28 k28
  have F29 := fun_mk (st := s_is_pair) l29 c29 k29
  have F30 := fun_mk (st := s_l_is_story) l30 c30 k30
  have F31 := fun_mk (st := s_otherwise) l31 c31 k31
  let T : Txt K mg := ⟨_,
    _,
    F0,
    PySem.W.mg_of X G a0,
    F0.binds (ps := ["value", "low", "high"]) fun _ _ _ _ _ _ us hl => match us, hl with | [_, _, _], _ => rfl,
    _,
    _,
    F1,
    PySem.W.mg_of X G a1,
    F1.binds (ps := ["value", "many"]) fun _ _ _ _ _ _ us hl => match us, hl with | [_, _], _ => rfl,
    _,
    _,
    F2,
    PySem.W.mg_of X G a2,
    F2.binds (ps := ["course"]) fun _ _ _ _ _ _ us hl => match us, hl with | [_], _ => rfl,
    cc2,
    pp2,
    rfl,
    _,
    _,
    F3,
    PySem.W.mg_of X G a3,
    F3.binds (ps := ["house", "value"]) fun _ _ _ _ _ _ us hl => match us, hl with | [_, _], _ => rfl,
    _,
    _,
    F4,
    PySem.W.mg_of X G a4,
    F4.binds (ps := ["house", "course", "moment"]) fun _ _ _ _ _ _ us hl => match us, hl with | [_, _, _], _ => rfl,
    cc4,
    pp4,
    rfl,
    _,
    _,
    F5,
    PySem.W.mg_of X G a5,
    F5.binds (ps := ["heads", "server"]) fun _ _ _ _ _ _ us hl => match us, hl with | [_, _], _ => rfl,
    _,
    _,
    F6,
    PySem.W.mg_of X G a6,
    F6.binds (ps := ["house", "table", "asker"]) fun _ _ _ _ _ _ us hl => match us, hl with | [_, _, _], _ => rfl,
    _,
    _,
    F7,
    PySem.W.mg_of X G a7,
    F7.binds (ps := ["house", "table", "asker", "name"]) fun _ _ _ _ _ _ us hl => match us, hl with | [_, _, _, _], _ => rfl,
    _,
    _,
    F8,
    PySem.W.mg_of X G a8,
    F8.binds (ps := ["heads", "server"]) fun _ _ _ _ _ _ us hl => match us, hl with | [_, _], _ => rfl,
    cc8,
    pp8,
    rfl,
    _,
    _,
    F9,
    PySem.W.mg_of X G a9,
    F9.binds (ps := ["house", "value"]) fun _ _ _ _ _ _ us hl => match us, hl with | [_, _], _ => rfl,
    _,
    _,
    F10,
    PySem.W.mg_of X G a10,
    F10.binds (ps := ["house", "table", "course", "told"]) fun _ _ _ _ _ _ us hl => match us, hl with | [_, _, _, _], _ => rfl,
    _,
    _,
    F11,
    PySem.W.mg_of X G a11,
    F11.binds (ps := ["house", "table", "value"]) fun _ _ _ _ _ _ us hl => match us, hl with | [_, _, _], _ => rfl,
    _,
    _,
    F12,
    PySem.W.mg_of X G a12,
    F12.binds (ps := ["_law_script"]) fun _ _ _ _ _ _ us hl => match us, hl with | [_], _ => rfl,
    _,
    _,
    F13,
    PySem.W.mg_of X G a13,
    F13.binds (ps := ["_law_deck_here", "_law_many"]) fun _ _ _ _ _ _ us hl => match us, hl with | [_, _], _ => rfl,
    _,
    _,
    F14,
    PySem.W.mg_of X G a14,
    F14.binds (ps := ["_law_deck_here", "_law_items"]) fun _ _ _ _ _ _ us hl => match us, hl with | [_, _], _ => rfl,
    _,
    _,
    F15,
    PySem.W.mg_of X G a15,
    F15.binds (ps := ["_law_servers", "_law_lag"]) fun _ _ _ _ _ _ us hl => match us, hl with | [_, _], _ => rfl,
    _,
    _,
    F16,
    PySem.W.mg_of X G a16,
    F16.binds (ps := ["_law_deck_here", "_law_room"]) fun _ _ _ _ _ _ us hl => match us, hl with | [_, _], _ => rfl,
    _,
    _,
    F17,
    PySem.W.mg_of X G a17,
    F17.binds (ps := ["_law_course_here", "_law_rest"]) fun _ _ _ _ _ _ us hl => match us, hl with | [_, _], _ => rfl,
    _,
    _,
    F18,
    PySem.W.mg_of X G a18,
    F18.binds (ps := ["_law_deck_here", "_law_house_here", "_law_many"]) fun _ _ _ _ _ _ us hl => match us, hl with | [_, _, _], _ => rfl,
    _,
    _,
    F19,
    PySem.W.mg_of X G a19,
    F19.binds (ps := ["_law_house_here", "_law_course_here", "_law_moment", "_law_server"]) fun _ _ _ _ _ _ us hl => match us, hl with | [_, _, _, _], _ => rfl,
    _,
    _,
    F20,
    PySem.W.mg_of X G a20,
    F20.binds (ps := ["_law_deck_here", "_law_room"]) fun _ _ _ _ _ _ us hl => match us, hl with | [_, _], _ => rfl,
    _,
    _,
    F21,
    PySem.W.mg_of X G a21,
    F21.binds (ps := ["_law_house_here", "_law_table_here", "_law_asker"]) fun _ _ _ _ _ _ us hl => match us, hl with | [_, _, _], _ => rfl,
    _,
    _,
    F22,
    PySem.W.mg_of X G a22,
    F22.binds (ps := ["_law_house_here", "_law_table_here", "_law_asker", "_law_name"]) fun _ _ _ _ _ _ us hl => match us, hl with | [_, _, _, _], _ => rfl,
    _,
    _,
    F23,
    PySem.W.mg_of X G a23,
    F23.binds (ps := ["_law_deck_here", "_law_house_here", "_law_table_here", "_law_course_here"]) fun _ _ _ _ _ _ us hl => match us, hl with | [_, _, _, _], _ => rfl,
    _,
    _,
    F24,
    PySem.W.mg_of X G a24,
    F24.binds (ps := ["_law_deck_here"]) fun _ _ _ _ _ _ us hl => match us, hl with | [_], _ => rfl,
    _,
    _,
    F25,
    PySem.W.mg_of X G a25,
    F25.binds (ps := ["_law_deck_here", "_law_thing", "_law_deep"]) fun _ _ _ _ _ _ us hl => match us, hl with | [_, _, _], _ => rfl,
    _,
    _,
    F26,
    PySem.W.mg_of X G a26,
    F26.binds (ps := ["_law_deck_here", "_law_room"]) fun _ _ _ _ _ _ us hl => match us, hl with | [_, _], _ => rfl,
    _,
    _,
    F27,
    PySem.W.mg_of X G a27,
    F27.binds (ps := ["_law_value", "_law_low", "_law_high"]) fun _ _ _ _ _ _ us hl => match us, hl with | [_, _, _], _ => rfl,
    _,
    _,
    F28,
    PySem.W.mg_of X G a28,
    F28.binds (ps := ["_law_house_here", "_law_value"]) fun _ _ _ _ _ _ us hl => match us, hl with | [_, _], _ => rfl,
    _,
    _,
    F29,
    PySem.W.mg_of X G a29,
    F29.binds (ps := ["_law_house_here", "_law_value"]) fun _ _ _ _ _ _ us hl => match us, hl with | [_, _], _ => rfl,
    _,
    _,
    F30,
    PySem.W.mg_of X G a30,
    F30.binds (ps := ["_law_house_here", "_law_table_here", "_law_value"]) fun _ _ _ _ _ _ us hl => match us, hl with | [_, _, _], _ => rfl,
    _,
    _,
    F31,
    PySem.W.mg_of X G a31,
    F31.binds (ps := ["_law_deck_here", "_law_house_here", "_law_story"]) fun _ _ _ _ _ _ us hl => match us, hl with | [_, _, _], _ => rfl,
    _,
    PySem.W.mg_of X G v_NEW_ASKER,
    x_NEW_ASKER.sq w_NEW_ASKER,
    _,
    PySem.W.mg_of X G v_NONE_ASKED,
    x_NONE_ASKED.sq w_NONE_ASKED,
    PySem.W.mg_none_of X G z_abs,
    PySem.W.mg_none_of X G z_all,
    PySem.W.mg_none_of X G z_bool,
    PySem.W.mg_none_of X G z_enumerate,
    PySem.W.mg_none_of X G z_int,
    PySem.W.mg_none_of X G z_isinstance,
    PySem.W.mg_none_of X G z_len,
    PySem.W.mg_none_of X G z_list,
    PySem.W.mg_none_of X G z_max,
    PySem.W.mg_none_of X G z_min,
    PySem.W.mg_none_of X G z_range,
    PySem.W.mg_none_of X G z_repr,
    PySem.W.mg_none_of X G z_set,
    PySem.W.mg_none_of X G z_sorted,
    PySem.W.mg_none_of X G z_tuple,
    PySem.W.mg_none_of X G z_zip⟩
  refine ⟨_, T.tabs, fun_mk (st := s_law) l32 c32 k32, fun s u => .of_eq rfl, fun p hp => ?_, fun base _ hb => law_does T hb⟩
  have hp' : p ∈ [(cc2, pp2), (cc4, pp4), (cc8, pp8)] := hp
  rcases List.mem_cons.mp hp' with rfl | hp'
  · exact tab_mk X (PySem.W.mg_of X G a2) l2 rfl rfl u2 v2 y2 tk2
  rcases List.mem_cons.mp hp' with rfl | hp'
  · exact tab_mk X (PySem.W.mg_of X G a4) l4 rfl rfl u4 v4 y4 tk4
  rcases List.mem_cons.mp hp' with rfl | hp'
  · exact tab_mk X (PySem.W.mg_of X G a8) l8 rfl rfl u8 v8 y8 tk8
  exact absurd hp' List.not_mem_nil
end Qu
open PySem PySem.W PyProof.Rows
set_option maxRecDepth 100000 in
set_option maxHeartbeats 0 in
theorem PySem.Challenge.cw_sentnext_k16_what_is_a_story_holds : PySem.Challenge.rw_sentnext_k16_what_is_a_story.Holds := by
  w_on; o_law; k_head; (case hw => w_witness2)
  k_fill
  refine Qu.law_walkT (l := PySem.Challenge.rw_sentnext_k16_what_is_a_story) (x := "_law_script") (N := ["_law_script", "_law_deck_here", "_law_lap", "_law_house_here", "_law_table_here", "_law_course_here", "_law_pairs", "_law_asker", "_law_is_served", "_law_story", "_law_values", "_law_many", "_law_long", "_law_value", "_law_held", "_law_due"]) (nms := ["changes_of", "heads_back", "tellings"]) rfl rfl Qu.sc_law (fun w h Y => PySem.W.kIn_of Y) (by decide +kernel) ?F
  case F =>
    intro w mg fa h KX G hmg hck
    refine' Qu.all_mk KX G hmg ?a0 ?l0 ?c0 ?k0 ?a1 ?l1 ?c1 ?k1 ?a2 ?l2 ?c2 ?k2 ?u2 ?v2 ?y2 ?tk2 ?a3 ?l3 ?c3 ?k3 ?a4 ?l4 ?c4 ?k4 ?u4 ?v4 ?y4 ?tk4 ?a5 ?l5 ?c5 ?k5 ?a6 ?l6 ?c6 ?k6 ?a7 ?l7 ?c7 ?k7 ?a8 ?l8 ?c8 ?k8 ?u8 ?v8 ?y8 ?tk8 ?a9 ?l9 ?c9 ?k9 ?a10 ?l10 ?c10 ?k10 ?a11 ?l11 ?c11 ?k11 ?a12 ?l12 ?c12 ?k12 ?a13 ?l13 ?c13 ?k13 ?a14 ?l14 ?c14 ?k14 ?a15 ?l15 ?c15 ?k15 ?a16 ?l16 ?c16 ?k16 ?a17 ?l17 ?c17 ?k17 ?a18 ?l18 ?c18 ?k18 ?a19 ?l19 ?c19 ?k19 ?a20 ?l20 ?c20 ?k20 ?a21 ?l21 ?c21 ?k21 ?a22 ?l22 ?c22 ?k22 ?a23 ?l23 ?c23 ?k23 ?a24 ?l24 ?c24 ?k24 ?a25 ?l25 ?c25 ?k25 ?a26 ?l26 ?c26 ?k26 ?a27 ?l27 ?c27 ?k27 ?a28 ?l28 ?c28 ?k28 ?a29 ?l29 ?c29 ?k29 ?a30 ?l30 ?c30 ?k30 ?a31 ?l31 ?c31 ?k31 ?a32 ?l32 ?c32 ?k32 ?v_NEW_ASKER ?w_NEW_ASKER ?x_NEW_ASKER ?v_NONE_ASKED ?w_NONE_ASKED ?x_NONE_ASKED ?z_abs ?z_all ?z_bool ?z_enumerate ?z_int ?z_isinstance ?z_len ?z_list ?z_max ?z_min ?z_range ?z_repr ?z_set ?z_sorted ?z_tuple ?z_zip
    (case a0 => k_is)
    (case l0 => k_is)
    (case c0 => k_is)
    (case k0 => k_is)
    (case a1 => k_is)
    (case l1 => k_is)
    (case c1 => k_is)
    (case k1 => k_is)
    (case a2 => k_is)
    (case l2 => k_is)
    (case c2 => k_is)
    (case k2 => k_is)
    (case u2 => k_is)
    (case v2 => exact ⟨_, rfl, rfl⟩)
    (case y2 => rfl)
    (case tk2 => exact hck "changes_of" (by simp))
    (case a3 => k_is)
    (case l3 => k_is)
    (case c3 => k_is)
    (case k3 => k_is)
    (case a4 => k_is)
    (case l4 => k_is)
    (case c4 => k_is)
    (case k4 => k_is)
    (case u4 => k_is)
    (case v4 => exact ⟨_, rfl, rfl⟩)
    (case y4 => rfl)
    (case tk4 => exact hck "heads_back" (by simp))
    (case a5 => k_is)
    (case l5 => k_is)
    (case c5 => k_is)
    (case k5 => k_is)
    (case a6 => k_is)
    (case l6 => k_is)
    (case c6 => k_is)
    (case k6 => k_is)
    (case a7 => k_is)
    (case l7 => k_is)
    (case c7 => k_is)
    (case k7 => k_is)
    (case a8 => k_is)
    (case l8 => k_is)
    (case c8 => k_is)
    (case k8 => k_is)
    (case u8 => k_is)
    (case v8 => exact ⟨_, rfl, rfl⟩)
    (case y8 => rfl)
    (case tk8 => exact hck "tellings" (by simp))
    (case a9 => k_is)
    (case l9 => k_is)
    (case c9 => k_is)
    (case k9 => k_is)
    (case a10 => k_is)
    (case l10 => k_is)
    (case c10 => k_is)
    (case k10 => k_is)
    (case a11 => k_is)
    (case l11 => k_is)
    (case c11 => k_is)
    (case k11 => k_is)
    (case a12 => k_is)
    (case l12 => k_is)
    (case c12 => k_is)
    (case k12 => k_is)
    (case a13 => k_is)
    (case l13 => k_is)
    (case c13 => k_is)
    (case k13 => k_is)
    (case a14 => k_is)
    (case l14 => k_is)
    (case c14 => k_is)
    (case k14 => k_is)
    (case a15 => k_is)
    (case l15 => k_is)
    (case c15 => k_is)
    (case k15 => k_is)
    (case a16 => k_is)
    (case l16 => k_is)
    (case c16 => k_is)
    (case k16 => k_is)
    (case a17 => k_is)
    (case l17 => k_is)
    (case c17 => k_is)
    (case k17 => k_is)
    (case a18 => k_is)
    (case l18 => k_is)
    (case c18 => k_is)
    (case k18 => k_is)
    (case a19 => k_is)
    (case l19 => k_is)
    (case c19 => k_is)
    (case k19 => k_is)
    (case a20 => k_is)
    (case l20 => k_is)
    (case c20 => k_is)
    (case k20 => k_is)
    (case a21 => k_is)
    (case l21 => k_is)
    (case c21 => k_is)
    (case k21 => k_is)
    (case a22 => k_is)
    (case l22 => k_is)
    (case c22 => k_is)
    (case k22 => k_is)
    (case a23 => k_is)
    (case l23 => k_is)
    (case c23 => k_is)
    (case k23 => k_is)
    (case a24 => k_is)
    (case l24 => k_is)
    (case c24 => k_is)
    (case k24 => k_is)
    (case a25 => k_is)
    (case l25 => k_is)
    (case c25 => k_is)
    (case k25 => k_is)
    (case a26 => k_is)
    (case l26 => k_is)
    (case c26 => k_is)
    (case k26 => k_is)
    (case a27 => k_is)
    (case l27 => k_is)
    (case c27 => k_is)
    (case k27 => k_is)
    (case a28 => k_is)
    (case l28 => k_is)
    (case c28 => k_is)
    (case k28 => k_is)
    (case a29 => k_is)
    (case l29 => k_is)
    (case c29 => k_is)
    (case k29 => k_is)
    (case a30 => k_is)
    (case l30 => k_is)
    (case c30 => k_is)
    (case k30 => k_is)
    (case a31 => k_is)
    (case l31 => k_is)
    (case c31 => k_is)
    (case k31 => k_is)
    (case a32 => k_is)
    (case l32 => k_is)
    (case c32 => k_is)
    (case k32 => k_is)
    (case v_NEW_ASKER => k_is)
    (case w_NEW_ASKER => k_is)
    (case x_NEW_ASKER => exact ⟨_, _, rfl, rfl, by decide, .cons ⟨_, rfl⟩ (.cons ⟨_, rfl⟩ (.cons ⟨_, rfl⟩ (.nil)))⟩)
    (case v_NONE_ASKED => k_is)
    (case w_NONE_ASKED => k_is)
    (case x_NONE_ASKED => exact ⟨_, _, rfl, rfl, by decide, .cons ⟨_, rfl⟩ (.cons ⟨_, rfl⟩ (.nil))⟩)
    (case z_abs => k_is)
    (case z_all => k_is)
    (case z_bool => k_is)
    (case z_enumerate => k_is)
    (case z_int => k_is)
    (case z_isinstance => k_is)
    (case z_len => k_is)
    (case z_list => k_is)
    (case z_max => k_is)
    (case z_min => k_is)
    (case z_range => k_is)
    (case z_repr => k_is)
    (case z_set => k_is)
    (case z_sorted => k_is)
    (case z_tuple => k_is)
    (case z_zip => k_is)

import PyProof.Rows.All
import KE.KIntText
import KE.SortData
import KE.KeyNested
import Wide.All
import OpenK.AllK
import Wide.FinOn
import HandS.ForMost
import HandS.IsInst
import HandS.TupAny
import HandS.NoneIn
import HandS.TupMul
import HandS.Zip
import HandS.Evl
import PyProof.ReprRoads
import HandS.AnyAll
import HandS.Comp
import PyProof.TupleOfGen
import HandS.Set
import HandS.SortInts
import HandS.Walk
import HandS.TupSets
import HandS.Text
import HandS.RaiseMore
import KE.KUnpackStar
import HandS.Conv
import HandS.SetFor
import HandS.Strs
import HandS.Style
import KE.GoesEnumKw
import PySem.Challenge.RW_sentnext_k59_long_logs
import HandS.Exc
import HandS.ExcInit
import HandS.ExcField
import HandS.ExcIs
import HandS.WordsExc
import KE.KExcIs
import HandS.Lambda
import HandS.Deep
set_option Elab.async false
set_option linter.all false
set_option maxRecDepth 100000
set_option maxHeartbeats 4000000
namespace Qu
open PySem PySem.Spec PyProof.Rows L2
/-! ### data stays where the heap only grows -/
theorem sameT {K : PySem.W.Frag} {H J : Hp} {a : Addr} {xs : List V} (e : Same H J) (h : SqT K H a xs) : SqT K J a xs := by
  rcases h with (h | ⟨o, h⟩) | h
  · exact Or.inl (Or.inl (e _ _ h))
  · exact Or.inl (Or.inr ⟨o, e _ _ h⟩)
  · exact Or.inr h
mutual
theorem dpSame {K : PySem.W.Frag} {H J : Hp} (e : Same H J) : ∀ (d : PyData) (v : V), Dp K H v d → Dp K J v d
  | .none, _, h => by cases h; exact .non
  | .bool b, _, h => by cases h; exact .bl b
  | .int i, _, h => by cases h; exact .int i
  | .str x, _, h => by cases h; exact .str x
  | .list ds, _, h => by cases h with | lst hs ha => exact .lst (e.seq hs) (dpAllSame e ds _ ha)
  | .tuple ds, _, h => by cases h with | tup hs ha => exact .tup (sameT e hs) (dpAllSame e ds _ ha)
  | .dict _, _, h => by cases h
theorem dpAllSame {K : PySem.W.Frag} {H J : Hp} (e : Same H J) : ∀ (ds : List PyData) (vs : List V), DpAll K H vs ds → DpAll K J vs ds
  | [], _, h => by cases h; exact .nil
  | d :: ds, _, h => by cases h with | cons h1 h2 => exact .cons (dpSame e d _ h1) (dpAllSame e ds _ h2)
end
mutual
theorem dpNoDict {K : PySem.W.Frag} {H : Hp} : ∀ (d : PyData) (v : V), Dp K H v d → d.hasDict = false
  | .none, _, _ => by simp only [PyData.hasDict]
  | .bool _, _, _ => by simp only [PyData.hasDict]
  | .int _, _, _ => by simp only [PyData.hasDict]
  | .str _, _, _ => by simp only [PyData.hasDict]
  | .list ds, _, h => by cases h with | lst hs ha => simp only [PyData.hasDict]; exact dpAllNoDict ds _ ha
  | .tuple ds, _, h => by cases h with | tup hs ha => simp only [PyData.hasDict]; exact dpAllNoDict ds _ ha
  | .dict _, _, h => by cases h
theorem dpAllNoDict {K : PySem.W.Frag} {H : Hp} : ∀ (ds : List PyData) (vs : List V), DpAll K H vs ds → PyData.hasDictAll ds = false
  | [], _, _ => by simp only [PyData.hasDictAll]
  | d :: ds, _, h => by cases h with | cons h1 h2 => simp only [PyData.hasDictAll, dpNoDict d _ h1, dpAllNoDict ds _ h2, Bool.or_false]
end

/-! ### repr of data, where no repr is under way around -/
section
variable {X : Cx}
def rShow (K : PySem.W.Frag) : List V → Hp → VK → Prop := fun xs H Q => ∃ (v : V) (d : PyData), xs = [v] ∧ Dp K H v d ∧ d.showable = true ∧ d.depth ≤ 50 ∧ d.shown.length ≤ sizeLine ∧ Q (.str d.shown) H
theorem call_show (hg : X.A.guards = some []) (hu : X.A.units + 64 < cLine) : CallR X (.builtin "repr") (rShow X.K) := by
  intro pins s σ H xs us Q I r h
  obtain ⟨v, d, rfl, hd, hs, hdep, hz, q⟩ := h
  obtain ⟨u, rfl, ru⟩ := vals1 r
  obtain ⟨as, rd⟩ := Dp.reads I d v u hd ru
  have nd := PyData.noDict_hsm (as := as) (dpNoDict d v hd)
  cases hd with
  | non =>
    cases ru
    refine PySem.P.repr_of_none ?_
    exact ⟨.str _, H, I.tok _, ⟨_, rfl⟩, by simpa only [PyData.shown] using q⟩
  | bl b =>
    cases ru
    refine PySem.P.repr_of_bool ?_
    exact ⟨.str _, H, I.tok _, ⟨_, rfl⟩, by simpa only [PyData.shown] using q⟩
  | int i =>
    obtain ⟨t, rfl⟩ := ru
    refine PySem.P.repr_of_int (by simpa [PyData.showable] using hs) ?_
    exact ⟨.str _, H, I.tok _, ⟨_, rfl⟩, by simpa only [PyData.shown] using q⟩
  | str x =>
    obtain ⟨t, rfl⟩ := ru
    refine PySem.P.repr_of_str ?_ (by simpa only [PyData.shown] using hz)
    exact ⟨.str _, H, I.tok _, ⟨_, rfl⟩, by simpa only [PyData.shown] using q⟩
  | lst h1 h2 =>
    cases ru
    exact repr_of_reads' (h₀ := s.heap) rd hs nd hg (by omega) (fun _ _ e => e) (fun h' tu tk hk => ⟨.str _, H, I.kept hk, ⟨_, rfl⟩, q⟩) hz
  | tup h1 h2 =>
    cases ru
    exact repr_of_reads' (h₀ := s.heap) rd hs nd hg (by omega) (fun _ _ e => e) (fun h' tu tk hk => ⟨.str _, H, I.kept hk, ⟨_, rfl⟩, q⟩) hz
end

/-! ### isinstance of data -/
def kindD : PyData → String
  | .none => "NoneType"
  | .bool _ => "bool"
  | .int _ => "int"
  | .str _ => "str"
  | .list _ => "list"
  | .tuple _ => "tuple"
  | .dict _ => "dict"
section
variable {K : PySem.W.Frag} {H : Hp}
theorem dpTy {d : PyData} {v : V} (h : Dp K H v d) : TyX K H v (.type (kindD d)) := by
  cases h with
  | non => exact .base .non
  | bl b => exact .base (.bl b)
  | int i => exact .base (.int i)
  | str x => exact .base (.str x)
  | lst h1 _ =>
    rcases h1 with (h1 | ⟨o, h1⟩) | ⟨o, its, n, hk, hc, _⟩
    · exact .base (.lst h1)
    · exact .base (.frz h1)
    · exact .kList hk hc
  | tup h1 _ =>
    rcases h1 with (h1 | ⟨o, h1⟩) | ⟨o, its, n, hk, hc, _⟩
    · exact .base (.tup h1)
    · exact .fTuple h1
    · exact .kTuple hk hc
def isS (T k : String) : Bool := decide (k = T) || (decide (T = "int") && decide (k = "bool"))
def isA (T : String) (d : PyData) : Bool := isS T (kindD d)
theorem kitS : ∀ T ∈ ["tuple", "int", "bool", "str", "list"], ∀ k ∈ ["NoneType", "bool", "int", "str", "list", "tuple"], kitB k T = some (isS T k) := by decide +kernel
theorem dpKind {d : PyData} {v : V} (h : Dp K H v d) : kindD d ∈ ["NoneType", "bool", "int", "str", "list", "tuple"] := by
  cases h <;> simp [kindD]
end
section
variable {X : Cx}
def rIsD (K : PySem.W.Frag) (T : String) : List V → Hp → VK → Prop := fun xs H Q => ∃ (v : V) (d : PyData), xs = [v, .ty T] ∧ Dp K H v d ∧ Q (.bl (isA T d)) H
theorem call_isD (T : String) (hT : T ∈ ["tuple", "int", "bool", "str", "list"]) : CallR X (.builtin "isinstance") (rIsD X.K T) := by
  intro pins s σ H xs us Q I r h
  obtain ⟨v, d, rfl, hd, q⟩ := h
  refine call_isi pins s σ H _ us Q I r ⟨v, .ty T, .type (kindD d), .type T, isA T d, rfl, .ty T, dpTy hd, kit_ty (kitS T hT _ (dpKind hd)), q⟩
end
/-! ### the end of a law: its def is called by the row's own caller, so nothing is under way around it -/
/-- where the script stands -/
def onlyAt (a : Addr) (u : HO) (free : Bool) : Hp := fun b => if b = a ∧ free = true then some u else none
theorem onlyAt_cases (a : Addr) (u : HO) (free : Bool) (b : Addr) : onlyAt a u free b = none ∨ (b = a ∧ free = true ∧ onlyAt a u free b = some u) := by
  by_cases h : b = a ∧ free = true
  · exact Or.inr ⟨h.1, h.2, if_pos h⟩
  · exact Or.inl (if_neg h)
/-- what the law's body has to do, at any place where its def is called by the caller -/
def LawDoes (P : Program) (w : World) (K : PySem.W.Frag) (mg : Str → Option Value) (st : Stmt) (N : List Str) (f : Addr) : Prop :=
  ∀ (base : Heap) (cdv : Value) (s : Shared) (H : Hp) (a : Addr) (ns : List Int), ns.length ≤ 63 → SqL K H a (ns.map V.int) →
    ∃ t, PSs (cxOf CX0 P w K mg base N "law" (defScope st) f cdv callerA [] s H E0).nox (defBody st) t ∧
      t { nx := fun _ _ => False, rt := fun v _ => v = .bl true } (start N [.ref a]) H
theorem law_at {P : Program} {w : World} {K : PySem.W.Frag} {mg : Str → Option Value} {base : Heap} {st : Stmt} {N : List Str} {f a : Addr} {fd : FuncData} {s : Shared} {H : Hp} {ns : List Int} {x : Str}
    (F : Fun K "law" "law" st f fd) (S : FnScope N [x] (defScope st)) (hr : Room 60 callerA) (D : LawDoes P w K mg st N f)
    (e0 : Env0 P w K mg base callerA [] s H) (hb : BindsTo s fd ⟨[.ref a], []⟩ [(x, .ref a)]) (hl : ns.length ≤ 63) (hS : SqL K H a (ns.map V.int)) :
    codeAny (model P w) callerA (.call (.ref f) ⟨[.ref a], []⟩) (CR CX0 [] P w H s (fun v _ => v = .bl true) E0) s := by
  obtain ⟨oc, od, kV, doc, pm, an, cdv, ct, osl, rfl, lk, hcd⟩ := F.ex
  have heap0 : K.In s.heap := e0.mod.kin.keeps fun b o e => (e0.bs b o e).1
  have lim0 := e0.mod.nolimit.keeps fun b o e => (e0.bs b o e).1
  have vals : Vals [V.ref a] [Value.ref a] := .cons rfl .nil
  refine codeAny_call_function hr.depth (heap0 _ _ lk) rfl S.co S.gen rfl (PySem.W.codeRec_of heap0 hcd) (hb _ _ _ _ ?_)
  refine wpAny_newFunctionEnv_cells S.kind (fun y hy => ?_) fun env he s1 ic => ?_
  · have ey : y = (x, Value.ref a) := List.mem_singleton.mp hy
    rw [ey]
    rcases S.par x (List.mem_singleton.mpr rfl) with q | q
    · exact Or.inl q
    · exact Or.inr ⟨q, PySem.W.cellsFrom_some _ _ _ (Or.inl q)⟩
  · subst he
    refine ⟨lim0.keeps ic.toInCall.keep, codeAny_func ?_⟩
    obtain ⟨t, pt, q⟩ := D base cdv s H a ns hl hS
    have I := inv_start (CX := CX0) (E := E0) (cd := cdv) (f := f) (qual := "law") S hr.hd e0 rfl vals ic
    refine wpAny_mono (pt.nox.run [] s1 _ H _ I q) ?_ ?_
    · intro fl s2 h
      cases fl with
      | ret u =>
        obtain ⟨v, _, H2, J, rv, e⟩ := h
        exact ⟨v, H2, J.os, J.bare, J.base, J.hok, rv, e⟩
      | next => exact (let ⟨_, _, _, z⟩ := h; False.elim z)
      | brk => exact (let ⟨_, _, _, z⟩ := h; False.elim z)
      | cont => exact (let ⟨_, _, _, z⟩ := h; False.elim z)
    · exact fun _ _ z => z
theorem law_walk {l : PySem.W.OpenLaw} {q : Program} {loose : List Str} {XP : (Str → Option Value) → Heap → Prop} {YP : World → Heap → Prop} {d : DefRec} {K : Params → PySem.W.Frag} {x : Str} {st : Stmt} {N : List Str}
    (hn : l.most = some 63) (hdf : d.params.defaults = []) (S : FnScope N [x] (defScope st)) (hY : ∀ (w : World) (h : Heap), YP w h → (K w.params).In h)
    (Fm : ∀ (w : World) (mg : Str → Option Value) (fa : Addr) (h : Heap), (K w.params).In h → h.Ns mainGlobals mg → mg d.name = some (.ref fa) →
      ∃ fd : FuncData, Fun (K w.params) "law" "law" st fa fd ∧ (∀ (s : Shared) (u : Value), BindsTo s fd ⟨[u], []⟩ [(x, u)]) ∧ LawDoes l.prog w (K w.params) mg st N fa) :
    PySem.W.WalkO q loose XP YP l.row.toRowW d [] (fun f vs => PySem.call f vs) := by
  refine Att.attach_call hn hdf fun w s₀ s1 mg mb fa o pm cd doc a vs ns G Y ho hd hcd hmg hobj hints hlen hgen => ?_
  have hK := hY w _ Y
  obtain ⟨fd, F, hbind, D⟩ := Fm w mg fa _ hK G.T.g hmg
  have rv := vals_ints hints
  -- the script is tracked, as known to the object, unless it is one of the module's
  let u : HO := .frz { cls := .type "list", data := .seq vs.toArray } (.lst (ns.map V.int))
  let free : Bool := ((K w.params).lookup a).isNone
  let H : Hp := onlyAt a u free
  have lenV : vs.length = ns.length := hints.length
  have small : ns.length ≤ sizeLine := Nat.le_trans hlen (by decide)
  have hS : SqL (K w.params) H a (ns.map V.int) := by
    cases e : (K w.params).lookup a with
    | none => exact Or.inl (Or.inr ⟨_, if_pos ⟨rfl, by show ((K w.params).lookup a).isNone = true; rw [e]; rfl⟩⟩)
    | some ob =>
      have e1 := (hK a ob e).symm.trans hobj
      cases Option.some.inj e1
      exact Or.inr ⟨_, vs.toArray, _, e, rfl, rfl, rfl, by rw [List.size_toArray, lenV]; exact small, by rw [List.toList_toArray]; exact rv⟩
  have hHok : HOk l.prog w H s1.heap := fun b z e => by
    rcases onlyAt_cases a u free b with n | ⟨rfl, _, y⟩
    · cases n.symm.trans e
    · cases y.symm.trans e
      exact ⟨hobj, by rw [List.length_map]; exact small, vs, _, rv, hobj⟩
  have isL : ∀ {b : Addr} {ob : Obj}, s1.heap.get? b = some ob → (∀ its n, ob.data ≠ .seq its n) → H b = none := fun {b ob} e nd => by
    rcases onlyAt_cases a u free b with n | ⟨rfl, _, _⟩
    · exact n
    · cases hobj.symm.trans e
      exact absurd rfl (nd _ _)
  have nsK : ∀ {b : Addr} {m : Str → Option Value}, s1.heap.Ns b m → (hidT s1.heap H).Ns b m := by
    rintro b m ⟨ob, es, ep, e, dt, r⟩
    exact ⟨ob, es, ep, hidT_get e (isL e fun its n z => nomatch dt.symm.trans z), dt, r⟩
  have inB : (K w.params).In (hidT s1.heap H) := fun b ob e => hidT_get (hK b ob e) (by
    rcases onlyAt_cases a u free b with n | ⟨rfl, fr, _⟩
    · exact n
    · have fr' : ((K w.params).lookup b).isNone = true := fr
      rw [e] at fr'
      cases fr')
  have hM : Mod (K w.params) mg (hidT s1.heap H) := ⟨inB, nsK G.T.g, ⟨mb, nsK G.T.b, G.T.builtins⟩, let ⟨mc, h1, h2⟩ := G.T.nolimit; ⟨mc, nsK h1, h2⟩⟩
  have e0 : Env0 l.prog w (K w.params) mg (hidT s1.heap H) callerA [] s1 H :=
    { frames := rfl, mod := hM, bs := fun b ob e => of_hidT e, bsz := Nat.le_of_eq (hidT_size _ _), funs := True.intro, frf := fun b hb => (List.not_mem_nil hb).elim, hok := hHok, bare := .of_eq hgen }
  refine codeAny_mono (law_at F S ⟨rfl, by decide, by decide⟩ D e0 (hbind s1 (.ref a)) hlen hS) fun r s2 h => ?_
  cases r with
  | error e => exact False.elim h
  | ok fl =>
    cases fl with
    | next => exact False.elim h
    | brk => exact False.elim h
    | cont => exact False.elim h
    | ret v0 =>
      obtain ⟨v, H2, os, bare, un, hok2, r2, ev⟩ := h
      have ev' : v = .bl true := ev
      rw [ev'] at r2
      have e3 : v0 = Value.bool true := r2
      rw [e3]
      refine ⟨rfl, OldK.of_keep fun b ob e => ?_, os, bare⟩
      rcases onlyAt_cases a u free b with n | ⟨rfl, _, y⟩
      · exact un.keep b ob e n List.not_mem_nil List.not_mem_nil
      · have k2 := hok2 b _ (un.frzs b _ _ y)
        cases hobj.symm.trans e
        exact k2.1
/-! ### how much there is to a piece of data, and that it can be shown -/
mutual
def wt : PyData → Nat
  | .list ds => 1 + wtAll ds
  | .tuple ds => 1 + wtAll ds
  | _ => 1
def wtAll : List PyData → Nat
  | [] => 0
  | d :: ds => wt d + wtAll ds
end
mutual
def nice (e : Nat) : PyData → Bool
  | .none => true
  | .bool _ => true
  | .int i => decide (i.natAbs < 2 ^ e)
  | .str x => decide (x.length ≤ 10) && PyData.strOk x
  | .list ds => niceAll e ds
  | .tuple ds => niceAll e ds
  | .dict _ => false
def niceAll (e : Nat) : List PyData → Bool
  | [] => true
  | d :: ds => nice e d && niceAll e ds
end
theorem niceAll_iff {e : Nat} : ∀ {ds : List PyData}, niceAll e ds = true ↔ ∀ d ∈ ds, nice e d = true
  | [] => by simp [niceAll]
  | d :: ds => by simp [niceAll, niceAll_iff (ds := ds)]
theorem wtAll_append : ∀ a b : List PyData, wtAll (a ++ b) = wtAll a + wtAll b
  | [], b => by simp [wtAll]
  | d :: a, b => by simp [wtAll, wtAll_append a b]; omega
theorem wtAll_reverse : ∀ a : List PyData, wtAll a.reverse = wtAll a
  | [] => rfl
  | d :: a => by rw [List.reverse_cons, wtAll_append, wtAll_reverse a]; simp [wtAll]; omega
theorem wt_pos (d : PyData) : 1 ≤ wt d := by cases d <;> simp [wt]
theorem wtAll_len : ∀ ds : List PyData, ds.length ≤ wtAll ds
  | [] => Nat.le_refl _
  | d :: ds => by
    have := wtAll_len ds
    have := wt_pos d
    simp only [List.length_cons, wtAll]
    omega
theorem depthAll_append : ∀ a b : List PyData, PyData.depthAll (a ++ b) = max (PyData.depthAll a) (PyData.depthAll b)
  | [], b => by simp [PyData.depthAll]
  | d :: a, b => by simp only [List.cons_append, PyData.depthAll, depthAll_append a b]; omega
theorem depthAll_le {m : Nat} : ∀ {ds : List PyData}, PyData.depthAll ds ≤ m ↔ ∀ d ∈ ds, d.depth ≤ m
  | [] => by simp [PyData.depthAll]
  | d :: ds => by
    have ih := depthAll_le (m := m) (ds := ds)
    simp only [PyData.depthAll, List.mem_cons, forall_eq_or_imp, ← ih]
    omega
theorem log_lt {e : Nat} {i : Int} (h : i.natAbs < 2 ^ e) : i.natAbs.log2 < e + 1 := by
  by_cases z : i.natAbs = 0
  · rw [z]
    exact Nat.lt_of_le_of_lt (Nat.le_of_eq (by decide : Nat.log2 0 = 0)) (Nat.succ_pos e)
  · exact Nat.lt_succ_of_lt ((Nat.log2_lt z).mpr h)
theorem shownAll_len : ∀ ds : List PyData, (PyData.shownAll ds).length = ds.length
  | [] => by simp [PyData.shownAll]
  | d :: ds => by simp [PyData.shownAll, shownAll_len ds]
mutual
theorem nice_shown {e : Nat} : ∀ d : PyData, nice e d = true → d.shown.length + 2 ≤ (e + 110) * wt d
  | .none, _ => by simp only [PyData.shown, wt]; exact Nat.le_trans (by decide : ("None" : Str).length + 2 ≤ 110) (by omega)
  | .bool b, _ => by
    simp only [PyData.shown, wt]
    cases b
    · exact Nat.le_trans (by decide : ("False" : Str).length + 2 ≤ 110) (by omega)
    · exact Nat.le_trans (by decide : ("True" : Str).length + 2 ≤ 110) (by omega)
  | .int i, h => by
    have h' : i.natAbs < 2 ^ e := by simpa [nice] using h
    have := int_text_length_le (Nat.succ_pos e) (log_lt h')
    simp only [PyData.shown, wt]
    show (Str.ofString (toString i)).length + 2 ≤ _
    rw [PyProof.Rows.ofString_len]
    omega
  | .str x, h => by
    have h' : x.length ≤ 10 ∧ PyData.strOk x = true := by simpa [nice] using h
    have h2 : ∀ c ∈ x.cps.toList, c < 16 ^ 8 := fun c hc => by
      have h3 := h'.2
      unfold PyData.strOk at h3
      have h4 := Array.all_eq_true_iff_forall_mem.mp h3 c (by simpa using hc)
      have h5 : c < 0x110000 := by simpa using h4
      exact Nat.lt_trans h5 (by decide)
    have := StrLaws.reprText_len x h2
    simp only [PyData.shown, wt]
    omega
  | .list ds, h => by
    have ih := nice_shownAll ds (by simpa [nice] using h)
    have l := listText_len_le (PyData.shownAll ds)
    rw [shownAll_len] at l
    simp only [PyData.shown, wt]
    rw [Nat.mul_add (e + 110)]
    omega
  | .tuple ds, h => by
    have ih := nice_shownAll ds (by simpa [nice] using h)
    have l := tupleText_len_le (PyData.shownAll ds)
    rw [shownAll_len] at l
    simp only [PyData.shown, wt]
    rw [Nat.mul_add (e + 110)]
    omega
  | .dict _, h => by simp [nice] at h
theorem nice_shownAll {e : Nat} : ∀ ds : List PyData, niceAll e ds = true → ((PyData.shownAll ds).map (·.length)).sum + 2 * ds.length ≤ (e + 110) * wtAll ds
  | [], _ => by simp [PyData.shownAll]
  | d :: ds, h => by
    have h' : nice e d = true ∧ niceAll e ds = true := by simpa [niceAll] using h
    have h1 := nice_shown d h'.1
    have h2 := nice_shownAll ds h'.2
    simp only [PyData.shownAll, List.map_cons, List.sum_cons, List.length_cons, wtAll]
    rw [Nat.mul_add (e + 110)]
    omega
end
mutual
theorem nice_showable {e : Nat} (he : e < 1900) : ∀ d : PyData, nice e d = true → d.showable = true
  | .none, _ => by simp [PyData.showable]
  | .bool b, _ => by simp [PyData.showable]
  | .int i, h => by
    have h' : i.natAbs < 2 ^ e := by simpa [nice] using h
    have := log_lt h'
    simp only [PyData.showable, decide_eq_true_eq]
    omega
  | .str x, h => by simp [PyData.showable]
  | .list ds, h => by simp only [PyData.showable]; exact nice_showableAll he ds (by simpa [nice] using h)
  | .tuple ds, h => by simp only [PyData.showable]; exact nice_showableAll he ds (by simpa [nice] using h)
  | .dict _, h => by simp [nice] at h
theorem nice_showableAll {e : Nat} (he : e < 1900) : ∀ ds : List PyData, niceAll e ds = true → PyData.showableAll ds = true
  | [], _ => by simp [PyData.showableAll]
  | d :: ds, h => by
    have h' : nice e d = true ∧ niceAll e ds = true := by simpa [niceAll] using h
    simp only [PyData.showableAll, nice_showable he d h'.1, nice_showableAll he ds h'.2, Bool.and_self]
end
mutual
theorem nice_lay {e : Nat} : ∀ d : PyData, nice e d = true → d.canLay0 = true
  | .none, _ => by simp [PyData.canLay0]
  | .bool b, _ => by simp [PyData.canLay0]
  | .int i, h => by simp [PyData.canLay0]
  | .str x, h => by
    have h' : x.length ≤ 10 ∧ PyData.strOk x = true := by simpa [nice] using h
    simp only [PyData.canLay0, h'.2]
  | .list ds, h => by simp only [PyData.canLay0]; exact nice_layAll ds (by simpa [nice] using h)
  | .tuple ds, h => by simp only [PyData.canLay0]; exact nice_layAll ds (by simpa [nice] using h)
  | .dict _, h => by simp [nice] at h
theorem nice_layAll {e : Nat} : ∀ ds : List PyData, niceAll e ds = true → PyData.canLayAll0 ds = true
  | [], _ => by simp [PyData.canLayAll0]
  | d :: ds, h => by
    have h' : nice e d = true ∧ niceAll e ds = true := by simpa [niceAll] using h
    simp only [PyData.canLayAll0, nice_lay d h'.1, nice_layAll ds h'.2, Bool.and_self]
end
theorem nice_shaped {e : Nat} {d : PyData} (h : nice e d = true) (hd : d.depth ≤ 64) : SeqAt.shaped d = true := by
  unfold SeqAt.shaped
  rw [nice_lay d h, decide_eq_true hd]
  rfl
mutual
theorem nice_more {e f : Nat} (hef : e ≤ f) : ∀ d : PyData, nice e d = true → nice f d = true
  | .none, _ => by simp [nice]
  | .bool b, _ => by simp [nice]
  | .int i, h => by
    have h' : i.natAbs < 2 ^ e := by simpa [nice] using h
    simp only [nice, decide_eq_true_eq]
    exact Nat.lt_of_lt_of_le h' (Nat.pow_le_pow_right (by decide) hef)
  | .str x, h => by simpa [nice] using h
  | .list ds, h => by simp only [nice]; exact nice_moreAll hef ds (by simpa [nice] using h)
  | .tuple ds, h => by simp only [nice]; exact nice_moreAll hef ds (by simpa [nice] using h)
  | .dict _, h => by simp [nice] at h
theorem nice_moreAll {e f : Nat} (hef : e ≤ f) : ∀ ds : List PyData, niceAll e ds = true → niceAll f ds = true
  | [], _ => by simp [niceAll]
  | d :: ds, h => by
    have h' : nice e d = true ∧ niceAll e ds = true := by simpa [niceAll] using h
    simp only [niceAll, nice_more hef d h'.1, nice_moreAll hef ds h'.2, Bool.and_self]
end
/-- data that is small: exponent of its numbers, weight, depth -/
structure Tiny (e W m : Nat) (d : PyData) : Prop where
  ni : nice e d = true
  we : wt d ≤ W
  de : d.depth ≤ m
theorem Tiny.mono {e W m e' W' m' : Nat} {d : PyData} (t : Tiny e W m d) (h1 : e ≤ e') (h2 : W ≤ W') (h3 : m ≤ m') : Tiny e' W' m' d :=
  ⟨nice_more h1 d t.ni, Nat.le_trans t.we h2, Nat.le_trans t.de h3⟩
theorem Tiny.shows {e W m : Nat} {d : PyData} (t : Tiny e W m d) (he : e < 1900) (hm : m ≤ 50) (hW : (e + 110) * W ≤ sizeLine) : d.showable = true ∧ d.depth ≤ 50 ∧ d.shown.length ≤ sizeLine := by
  refine ⟨nice_showable he d t.ni, Nat.le_trans t.de hm, ?_⟩
  have h1 := nice_shown d t.ni
  have h2 : (e + 110) * wt d ≤ (e + 110) * W := Nat.mul_le_mul_left _ t.we
  omega
/-- items of a piece of data -/
theorem wt_item : ∀ {ds : List PyData} {d : PyData}, d ∈ ds → wt d ≤ wtAll ds
  | x :: ds, d, h => by
    simp only [wtAll]
    rcases List.mem_cons.mp h with rfl | h
    · omega
    · have := wt_item h
      omega
theorem dpAll_len {K : PySem.W.Frag} {H : Hp} : ∀ {vs : List V} {ds : List PyData}, DpAll K H vs ds → vs.length = ds.length
  | _, _, .nil => rfl
  | _, _, .cons _ t => by simp only [List.length_cons, dpAll_len t]
theorem dpAll_get {K : PySem.W.Frag} {H : Hp} : ∀ {vs : List V} {ds : List PyData} {i : Nat} {v : V}, DpAll K H vs ds → vs[i]? = some v → ∃ d, ds[i]? = some d ∧ Dp K H v d
  | _, _, 0, v, .cons h _, e => by simp at e; subst e; exact ⟨_, rfl, h⟩
  | _, _, i + 1, v, .cons _ t, e => by
    obtain ⟨d, h1, h2⟩ := dpAll_get (i := i) (v := v) t (by simpa using e)
    exact ⟨d, by simpa using h1, h2⟩
theorem dpAll_append {K : PySem.W.Frag} {H : Hp} : ∀ {vs ws : List V} {ds es : List PyData}, DpAll K H vs ds → DpAll K H ws es → DpAll K H (vs ++ ws) (ds ++ es)
  | _, _, _, _, .nil, h => h
  | _, _, _, _, .cons a t, h => .cons a (dpAll_append t h)
theorem dpAll_take {K : PySem.W.Frag} {H : Hp} : ∀ {vs : List V} {ds : List PyData} (n : Nat), DpAll K H vs ds → DpAll K H (vs.take n) (ds.take n)
  | _, _, 0, _ => .nil
  | _, _, _ + 1, .nil => .nil
  | _, _, n + 1, .cons a t => .cons a (dpAll_take n t)
theorem dpAll_drop {K : PySem.W.Frag} {H : Hp} : ∀ {vs : List V} {ds : List PyData} (n : Nat), DpAll K H vs ds → DpAll K H (vs.drop n) (ds.drop n)
  | _, _, 0, h => h
  | _, _, _ + 1, .nil => .nil
  | _, _, n + 1, .cons _ t => dpAll_drop n t
theorem dpAll_reverse {K : PySem.W.Frag} {H : Hp} : ∀ {vs : List V} {ds : List PyData}, DpAll K H vs ds → DpAll K H vs.reverse ds.reverse
  | _, _, .nil => .nil
  | _, _, .cons a t => by
    rw [List.reverse_cons, List.reverse_cons]
    exact dpAll_append (dpAll_reverse t) (.cons a .nil)
/-! ### cuts: what is known behind a test or an expression, said once -/
section
variable {X : Cx}
theorem pt_cut {e : Expr} {t : TT} (h : PT X e t) : PT X e (fun σ H Q => ∃ G : Bool → Hp → Prop, t σ H G ∧ ∀ b J, G b J → Q b J) :=
  ⟨fun pins s σ H Q I ⟨G, g, q⟩ => thn (h.run pins s σ H G I g) fun b s1 ⟨J, I1, z⟩ => ⟨J, I1, q b J z⟩⟩
theorem pe_cut {e : Expr} {t : TE} (h : PE X e t) : PE X e (fun σ H Q => ∃ G : V → Hp → Prop, t σ H G ∧ ∀ v J, G v J → Q v J) :=
  ⟨fun pins s σ H Q I ⟨G, g, q⟩ => thn (h.run pins s σ H G I g) fun u s1 ⟨v, J, I1, r, z⟩ => ⟨v, J, I1, r, q v J z⟩⟩
/-! ### tuples: slices and sums, whatever object they are -/
theorem cut_whole (xs : List V) (lo hi : Option Int) (h : HT.sIx xs.length 0 lo = 0 ∧ HT.sIx xs.length xs.length hi = xs.length) : cutV xs lo hi = xs := by
  unfold cutV
  rw [h.1, h.2, List.drop_zero, Nat.sub_zero, List.take_of_length_le (Nat.le_refl _)]
def rCutS (K : PySem.W.Frag) : V → Option Int → Option Int → Hp → VK → Prop := fun x lo hi H Q => ∃ (a : Addr) (xs : List V), x = .ref a ∧ SqT K H a xs ∧ ∀ (t : Addr) (J : Hp), SqT K J t (cutV xs lo hi) → Same H J → Q (.ref t) J
theorem sl_tupS : SlR X (rCutS X.K) := by
  intro pins s σ H x v vl vu lo hi sl Q I rx hs pl pu h
  obtain ⟨a, xs, rfl, hx, q⟩ := h
  refine sl_tupA pins s σ H _ v vl vu lo hi sl Q I rx hs pl pu ⟨a, xs, rfl, hx, fun z => q a H ?_ (Same.refl H), fun _ p hp => q p _ (SqT.of upd_same) fun b o e => ?_⟩
  · rw [cut_whole xs lo hi z]
    exact hx
  · rw [upd_ne (ne_of_none e hp)]
    exact e
def rCatS (K : PySem.W.Frag) : R2 := fun x y H Q => ∃ (a b : Addr) (xs ys : List V), x = .ref a ∧ y = .ref b ∧ SqT K H a xs ∧ SqT K H b ys ∧ xs.length + ys.length ≤ sizeLine ∧
  ∀ (t : Addr) (J : Hp), SqT K J t (xs ++ ys) → Same H J → Q (.ref t) J
theorem op_catS : OpR X (binaryOp .Add) (rCatS X.K) := by
  intro pins s σ H x y v u Q I rx ry h
  obtain ⟨a, b, xs, ys, rfl, rfl, ha, hb, hz, q⟩ := h
  refine op_catA pins s σ H _ _ v u Q I rx ry ⟨a, b, xs, ys, rfl, rfl, ha, hb, hz, fun e => q b H ?_ (Same.refl H), fun _ e => q a H ?_ (Same.refl H), fun _ _ p hp => q p _ (SqT.of upd_same) fun c o e => ?_⟩
  · rw [e]
    exact hb
  · rw [e, List.append_nil]
    exact ha
  · rw [upd_ne (ne_of_none e hp)]
    exact e
end
/-! ### t[::-1] of a tuple -/
section
variable {prog : Program} {w : World} {A : Around} {E : Value → Shared → Prop} {s : Shared}
theorem back_parts (n : Nat) : Builtin.Slice.sliceAdjust none none (-1) (n : Int) = ((n : Int) - 1, -1) ∧ Builtin.Slice.slicePlaces ((n : Int) - 1) (-1) (-1) = n := by
  constructor
  · unfold Builtin.Slice.sliceAdjust
    simp
  · unfold Builtin.Slice.slicePlaces
    have h1 : ¬ ((-1 : Int) > 0) := by omega
    have h2 : -(-1 : Int) = 1 := rfl
    rw [if_neg h1, h2, Int.ediv_one]
    split <;> omega
theorem fm_congr {α β : Type} {f g : α → Option β} : ∀ l : List α, (∀ x ∈ l, f x = g x) → l.filterMap f = l.filterMap g
  | [], _ => rfl
  | x :: l, h => by
    rw [List.filterMap_cons, List.filterMap_cons, h x List.mem_cons_self, fm_congr l fun y hy => h y (List.mem_cons_of_mem _ hy)]
theorem back_pick (xs : Array Value) : ((List.range xs.size).filterMap fun (k : Nat) => xs[(((xs.size : Int) - 1) + (k : Int) * (-1)).toNat]?).toArray = xs.toList.reverse.toArray := by
  have g := HT.pick_gen xs.reverse 0 xs.size
  rw [List.drop_zero, List.take_of_length_le (by simp)] at g
  rw [Array.toList_reverse] at g
  rw [← g]
  refine congrArg List.toArray (fm_congr _ fun k hk => ?_)
  have hk' : k < xs.size := List.mem_range.mp hk
  have e1 : (((xs.size : Int) - 1) + (k : Int) * (-1)).toNat = xs.size - 1 - k := by omega
  have e2 : (((0 : Nat) : Int) + (k : Int) * 1).toNat = k := by omega
  rw [e1, e2, Array.getElem?_reverse hk']
theorem back_applied {c : Addr} {st : Value} {n : Nat} {Q : Int × Int × Nat → Shared → Prop} (hS : s.heap.IsSliceOf c .none .none st) (hp : IsPart st (some (-1))) (h : Q ((n : Int) - 1, -1, n) s) :
    wpAny (model prog w) A (Builtin.Slice.sliceApplied (.ref c) (pure (n : Int))) Q E s := by
  obtain ⟨ob, o1, o2, o3⟩ := id hS
  unfold Builtin.Slice.sliceApplied Builtin.Slice.sliceFields
  refine wpAny_bind (wpAny_bind (wpAny_field o1 o3 (x := .none) rfl (wpAny_bind (wpAny_field o1 o3 (x := .none) rfl (wpAny_bind (wpAny_field o1 o3 (x := st) rfl (wpAny_pure ?_)))))))
  refine wpAny_bind (HT.slicePart_ hp ?_)
  show wpAny _ _ (if ((-1 : Int) == 0) = true then _ else _) _ _ s
  rw [if_neg (by decide)]
  refine wpAny_bind (slicePart_none (wpAny_bind (slicePart_none (wpAny_bind (wpAny_pure ?_)))))
  show wpAny _ _ (match Builtin.Slice.sliceAdjust none none (-1) (n : Int) with | (lo, hi) => pure (lo, (-1 : Int), Builtin.Slice.slicePlaces lo hi (-1))) _ _ s
  rw [(back_parts n).1]
  show wpAny _ _ (pure ((n : Int) - 1, (-1 : Int), Builtin.Slice.slicePlaces ((n : Int) - 1) (-1) (-1))) _ _ s
  rw [(back_parts n).2]
  exact wpAny_pure h
theorem getItem_back {t c : Addr} {its : Array Value} {st : Value} {Q : Value → Shared → Prop} (hT : IsTup s.heap t its) (hS : s.heap.IsSliceOf c .none .none st) (hp : IsPart st (some (-1))) (hz : its.size ≤ sizeLine)
    (h : Q (.ref s.heap.objs.size) { s with heap := s.heap.push { cls := .type "tuple", data := .seq its.toList.reverse.toArray } }) : wpAny (model prog w) A (getItem (.ref t) (.ref c)) Q E s := by
  have fits : sizeOk (.seq its.toList.reverse.toArray) := by
    show its.toList.reverse.toArray.size ≤ sizeLine
    rw [List.size_toArray, List.length_reverse, Array.length_toList]
    exact hz
  obtain ⟨ob, o1, o2, o3⟩ := id hS
  have isS : s.TypeIs (.ref c) "slice" := ⟨ob, o1, o2⟩
  unfold getItem
  try with_reducible refine wpAny_holding ?_
  first | refine wpAny_bind (wpAny_pure ?_) | skip
  refine wpAny_bind (wpAny_sequenceKey hT.typeIs (by decide) ?_)
  have sl := PyProof.Rows.slot_tuple_getitem
  refine wpAny_bind (wpAny_callSpecial?_slot (name := Str.ofString "__getitem__") hT.typeIs sl (wpAny_call_entry sl hT.typeIs PyProof.Rows.entry_tuple_getitem ?_ (PyProof.Rows.args_tuple_getitem _ _)))
  show wpAny _ _ (Builtin.Tuple.tupleItemsOf (.ref t) >>= _) _ _ s
  refine wpAny_bind (PyProof.Rows.tupleItemsOf_ hT (wpAny_bind (wpAny_typeOf isS ?_)))
  rw [if_pos (by decide)]
  refine wpAny_bind (back_applied hS hp ?_)
  show wpAny _ _ (if ((((its.size : Nat) : Int) - 1 == 0 && (-1 : Int) == 1 && its.size == its.size) = true) then _ else _) _ _ s
  have no : ¬ ((((its.size : Nat) : Int) - 1 == 0 && (-1 : Int) == 1 && its.size == its.size) = true) := by simp
  rw [if_neg no, back_pick]
  first
    | exact wpAny_bind (m := Builtin.Tuple.tupleExact _) (wpAny_newObj_type (wpAny_pure ⟨_, rfl, wpAny_pure h⟩) fits)
    | exact wpAny_bind (m := Builtin.Tuple.tupleExact _) (wpAny_newObj_type (wpAny_bind (wpAny_pure (wpAny_pure ⟨_, rfl, wpAny_pure h⟩))) fits)
    | exact wpAny_bind (wpAny_bind (m := Builtin.Tuple.tupleExact _) (wpAny_newObj_type (wpAny_pure (wpAny_pure ⟨_, rfl, wpAny_pure h⟩)) fits))
    | exact wpAny_bind (wpAny_bind (m := Builtin.Tuple.tupleExact _) (wpAny_newObj_type (wpAny_pure ⟨_, rfl, wpAny_pure h⟩) fits))
end
section
variable {X : Cx}
def tBackT (K : PySem.W.Frag) (te : TE) : TE := fun σ H Q => te σ H fun x J => ∃ (a : Addr) (xs : List V), x = .ref a ∧ SqT K J a xs ∧ ∀ p, J p = none → Q (.ref p) (upd J p (.tup xs.reverse))
theorem pe_revT {e : Expr} {te : TE} {k : Nat} {p1 p2 p3 pos : Pos} (he : PE X e te) : PE X (.Subscript e (.Slice none none (some (.UnaryOp .USub (.Constant (.int 1) k p1) p2)) p3) pos) (tBackT X.K te) := by
  refine ⟨fun pins s σ H Q I h => Subscript_ (thn (he.run pins s σ H _ I h) fun v s1 ⟨x, H1, I1, r1, a, xs, ex, hx, q⟩ => ?_)⟩
  subst ex
  cases r1
  have step : PO X (some (.UnaryOp .USub (.Constant (.int 1) k p1) p2)) _ := po_some (pe_un un_neg pe_int)
  refine wpAny_Slice (thn (po_none.run pins s1 σ H1 (fun o L => o = none ∧ L = H1) I1 ⟨rfl, rfl⟩) fun vl s2 ⟨l, H2, I2, pl, el, e2⟩ => ?_)
  subst el e2
  refine thn (po_none.run pins s2 σ H2 (fun o L => o = none ∧ L = H2) I2 ⟨rfl, rfl⟩) fun vu s3 ⟨u, H3, I3, pu, eu, e3⟩ => ?_
  subst eu e3
  refine thn (step.run pins s3 σ H3 (fun o L => o = some (-1) ∧ L = H3) I3 ⟨1, rfl, -1, rfl, rfl, rfl⟩) fun vs s4 ⟨o, H4, I4, ps, eo, e4⟩ => ?_
  subst eo e4
  cases pl
  cases pu
  have I5 : Inv X pins σ H4 { s4 with heap := s4.heap.push { cls := .type "slice", data := .fields #[.none, .none, vs] } } := I4.kept (t' := s4.toks) fun b ob z => Heap.get?_push_of_some _ z
  obtain ⟨its, r, isT, hz⟩ := I5.tuple hx
  have hlen := r.length
  show wpAny (model X.prog X.w) X.A (subscriptTail e (.Slice none none (some (.UnaryOp .USub (.Constant (.int 1) k p1) p2)) p3) (.ref a) (.ref s4.heap.objs.size)) (EP X pins σ Q) X.xe { s4 with heap := s4.heap.push { cls := .type "slice", data := .fields #[.none, .none, vs] } }
  refine tail_any (ops := [.ref a, .ref s4.heap.objs.size]) isT.typeIs PyProof.Rows.slot_tuple_getitem.lookup ?_ (by with_unfolding_all rfl)
  refine getItem_back isT (Heap.IsSliceOf.new _ .none .none vs) ps (by rw [List.size_toArray]; omega) ?_
  refine ⟨.ref _, _, I5.laid (t' := s4.toks) (o := .tup xs.reverse) (fun b ob z => Heap.get?_push_of_some _ z) (Nat.le_refl _) ?_, rfl, q _ (I5.hok.fresh (Nat.le_refl _))⟩
  exact ⟨by rw [List.length_reverse]; exact hz, its.reverse, r.reverse, _, Heap.get?_push_size _ rfl, rfl, _, rfl⟩
end
/-! ### x in a tuple of data -/
section
variable {X : Cx}
def rInT (K : PySem.W.Frag) : R2 := fun x y H Q => ∃ d ds, Dp K H x d ∧ Dp K H y (.tuple ds) ∧ SeqAt.shaped d = true ∧ SeqAt.shaped (.tuple ds) = true ∧ Q (.bl (ds.any fun z => PyData.eqv z d)) H
theorem op_inT (hu : X.A.units + 65 < cLine) : OpR X (compareOp .In) (rInT X.K) := by
  intro pins s σ H x y v u Q I rx ry h
  obtain ⟨d, ds, hd, he, sd, se, q⟩ := h
  obtain ⟨as, r1⟩ := Dp.reads I d x v hd rx
  obtain ⟨bs, r2⟩ := Dp.reads I (.tuple ds) y u he ry
  exact SeqAt.in_tuple_reads r2 r1 (SeqAt.canLay_of_shaped se) (SeqAt.canLay_of_shaped sd) (room_in_shaped sd hu) ⟨.bl _, H, I, rfl, q⟩
end
/-- a tuple of the module's own -/
def TupOf (o : Obj) (xs : List V) : Prop := ∃ (its : Array Value) (n : Nat), o.cls = .type "tuple" ∧ o.data = .seq its n ∧ its.size ≤ sizeLine ∧ Vals xs its.toList
theorem TupOf.sq {K : PySem.W.Frag} {a : Addr} {o : Obj} {xs : List V} (t : TupOf o xs) (h : K.lookup a = some o) : SqT K (fun _ => none) a xs := by
  obtain ⟨its, n, c, d, z, r⟩ := t
  exact Or.inr ⟨o, its, n, h, c, d, z, r⟩
theorem sq_any {K : PySem.W.Frag} {H : Hp} {a : Addr} {xs : List V} (h : SqT K (fun _ => none) a xs) : SqT K H a xs := sameT (fun _ _ z => by cases z) h
theorem hu65 {A : Around} {k : Nat} (hr : Room k A) : A.units + 65 < cLine := by
  have := hr.un
  omega
/-! ### rules with the written part said, for what stands in a comprehension -/
section
variable {X : Cx}
def rLenK (K : PySem.W.Frag) : List V → Hp → VK → Prop := fun xs H Q => ∃ p ys, xs = [V.ref p] ∧ (SqL K H p ys ∨ SqT K H p ys) ∧ Q (.int ys.length) H
theorem lenK (K : PySem.W.Frag) (h : X.K = K) : CallR X (.builtin "len") (rLenK K) := h ▸ call_len_seq
theorem ixLK (K : PySem.W.Frag) (h : X.K = K) : IxR X (rIxL K) := h ▸ ix_list
theorem ixTK (K : PySem.W.Frag) (h : X.K = K) : IxR X (rIxT K) := h ▸ ix_tup
theorem isDK (K : PySem.W.Frag) (T : String) (hT : T ∈ ["tuple", "int", "bool", "str", "list"]) (h : X.K = K) : CallR X (.builtin "isinstance") (rIsD K T) := h ▸ call_isD T hT
theorem catSK (K : PySem.W.Frag) (h : X.K = K) : OpR X (binaryOp .Add) (rCatS K) := h ▸ op_catS
theorem inK (K : PySem.W.Frag) (h : X.K = K) : OpR X (compareOp .In) (rIn K false) := h ▸ op_in_seq
theorem notInK (K : PySem.W.Frag) (h : X.K = K) : OpR X (compareOp .NotIn) (rIn K true) := h ▸ op_notIn_seq
theorem slSK (K : PySem.W.Frag) (h : X.K = K) : SlR X (rCutS K) := h ▸ sl_tupS
end
/-! ### what may change while a script is drawn from, and while code runs that has tables -/
/-- the heap without the tables of code: where data stands -/
def offT (H : Hp) : Hp := fun b => match H b with
  | some (.tbl _) => none
  | o => o
theorem offT_at {b : Addr} {H : Hp} {o : HO} (h : H b = some o) (nt : ∀ q, o ≠ .tbl q := by intro _ z; cases z) : offT H b = some o := by
  unfold offT
  rw [h]
  cases o <;> first | rfl | exact absurd rfl (nt _)
theorem offT_some {b : Addr} {H : Hp} {o : HO} (h : offT H b = some o) : H b = some o ∧ ∀ q, o ≠ .tbl q := by
  unfold offT at h
  cases e : H b with
  | none => rw [e] at h; cases h
  | some u =>
    rw [e] at h
    cases u <;> first | (cases h; done) | (cases h; exact ⟨rfl, fun _ z => by cases z⟩)
/-- the heap without p and the tables of code: where data stands that does not change -/
def off (p : Addr) (H : Hp) : Hp := fun b => if b = p then none else offT H b
theorem off_at {p b : Addr} {H : Hp} {o : HO} (n : b ≠ p) (h : H b = some o) (nt : ∀ q, o ≠ .tbl q := by intro _ z; cases z) : off p H b = some o := by
  unfold off
  rw [if_neg n]
  exact offT_at h nt
theorem off_same {p : Addr} {H : Hp} : off p H p = none := if_pos rfl
theorem off_none {p b : Addr} {H : Hp} (h : H b = none) : off p H b = none := by
  unfold off offT
  rw [h]
  split <;> rfl
theorem off_some {p b : Addr} {H : Hp} {o : HO} (h : off p H b = some o) : b ≠ p ∧ H b = some o ∧ ∀ q, o ≠ .tbl q := by
  by_cases e : b = p
  · rw [e, off_same] at h
    cases h
  · unfold off at h
    rw [if_neg e] at h
    exact ⟨e, offT_some h⟩
theorem off_in {p : Addr} {H : Hp} : Same (off p H) H := fun b o h => (off_some h).2.1
theorem offT_in {H : Hp} : Same (offT H) H := fun b o h => (offT_some h).1
/-- tables only grow -/
def Tabs (H J : Hp) : Prop := ∀ b q, H b = some (.tbl q) → ∃ q', J b = some (.tbl q') ∧ (TriplesOk q.toList → TriplesOk q'.toList)
theorem Tabs.trans {H J L : Hp} (a : Tabs H J) (b : Tabs J L) : Tabs H L := fun c q e => let ⟨q', e', f⟩ := a c q e; let ⟨q2, e2, f2⟩ := b c q' e'; ⟨q2, e2, fun z => f2 (f z)⟩
theorem Tabs.of_same {H J : Hp} (h : Same H J) : Tabs H J := fun b q e => ⟨q, h _ _ e, id⟩
theorem Tabs.tab {H J : Hp} (h : Tabs H J) {P : Addr} (g : GxR.TabG H P) : GxR.TabG J P := let ⟨q, e, z⟩ := g; let ⟨q', e', f⟩ := h P q e; ⟨q', e', f z⟩
theorem Tabs.put {q : Addr} {G J : Hp} {o : HO} (h : Tabs G J) (n : G q = none) : Tabs G (upd J q o) := fun b x e => by
  rw [upd_ne (ne_of_none e n)]
  exact h b x e
/-- all data is as it was, tables of code may have grown -/
structure Grow (H J : Hp) : Prop where
  s : Same (offT H) (offT J)
  t : Tabs H J
theorem Grow.refl (H : Hp) : Grow H H := ⟨Same.refl _, Tabs.of_same (Same.refl _)⟩
theorem Grow.trans {H J L : Hp} (a : Grow H J) (b : Grow J L) : Grow H L := ⟨a.s.trans b.s, a.t.trans b.t⟩
theorem Grow.of_same {H J : Hp} (h : Same H J) : Grow H J := ⟨fun b u e => let z := offT_some e; offT_at (h _ _ z.1) z.2, Tabs.of_same h⟩
theorem Grow.new {q : Addr} {H : Hp} {o : HO} (h : H q = none) : Grow H (upd H q o) := Grow.of_same fun b u e => by
  rw [upd_ne (ne_of_none e h)]
  exact e
theorem Grow.at {a : Addr} {H J : Hp} {o : HO} (k : Grow H J) (h : H a = some o) (nt : ∀ q, o ≠ .tbl q := by intro _ z; cases z) : J a = some o := (offT_some (k.s a o (offT_at h nt))).1
theorem Grow.write {q : Addr} {G J : Hp} {o : HO} (k : Grow G J) (h : G q = none) : Grow G (upd J q o) :=
  ⟨fun b u e => let z := offT_some e; offT_at (by rw [upd_ne (ne_of_none z.1 h)]; exact k.at z.1 z.2) z.2, k.t.put h⟩
theorem Grow.tabbed {P : Addr} {H J : Hp} (g : GxR.TabG H P) (h : GxR.Tabbed P H J) : Grow H J := by
  obtain ⟨⟨q', e', z'⟩, k⟩ := h
  obtain ⟨q, e, _⟩ := g
  refine ⟨fun b u eb => ?_, fun b x eb => ?_⟩
  · have y := offT_some eb
    have bp : b ≠ P := fun w => by
      rw [w, e] at y
      exact y.2 q (Option.some.inj y.1).symm
    exact offT_at (by rw [k b bp]; exact y.1) y.2
  · by_cases bp : b = P
    · rw [bp]
      exact ⟨q', e', fun _ => z'⟩
    · exact ⟨x, by rw [k b bp]; exact eb, id⟩
theorem Grow.free {q : Addr} {H J : Hp} (k : Grow H J) (h : J q = none) : H q = none := by
  cases e : H q with
  | none => rfl
  | some o =>
    cases o with
    | tbl x =>
      obtain ⟨x', e', _⟩ := k.t q x e
      rw [e'] at h
      cases h
    | _ =>
      rw [k.at e] at h
      cases h
theorem Grow.seq {K : PySem.W.Frag} {a : Addr} {H J : Hp} {xs : List V} (k : Grow H J) (h : SqL K H a xs) : SqL K J a xs := by
  rcases h with (h | ⟨o, h⟩) | h
  · exact Or.inl (Or.inl (k.at h))
  · exact Or.inl (Or.inr ⟨o, k.at h⟩)
  · exact Or.inr h
theorem Grow.tup {K : PySem.W.Frag} {a : Addr} {H J : Hp} {xs : List V} (k : Grow H J) (h : SqT K H a xs) : SqT K J a xs := by
  rcases h with (h | ⟨o, h⟩) | h
  · exact Or.inl (Or.inl (k.at h))
  · exact Or.inl (Or.inr ⟨o, k.at h⟩)
  · exact Or.inr h
/-- all but p and the tables is as it was, and p's first item is the same object -/
structure Keep (p : Addr) (H J : Hp) : Prop where
  s : Same (off p H) (off p J)
  h : ∀ (l : Addr) (r : List V), H p = some (.lst (.ref l :: r)) → ∃ r', J p = some (.lst (.ref l :: r'))
  t : Tabs H J
theorem Keep.refl (p : Addr) (H : Hp) : Keep p H H := ⟨Same.refl _, fun _ r h => ⟨r, h⟩, Tabs.of_same (Same.refl _)⟩
theorem Keep.trans {p : Addr} {H J L : Hp} (a : Keep p H J) (b : Keep p J L) : Keep p H L := ⟨a.s.trans b.s, fun l r h => let ⟨r', h'⟩ := a.h l r h; b.h l r' h', a.t.trans b.t⟩
theorem Keep.put {p l : Addr} {H : Hp} {r r' : List V} (h : H p = some (.lst (.ref l :: r))) : Keep p H (upd H p (.lst (.ref l :: r'))) := by
  refine ⟨fun b u e => ?_, fun m z e => ?_, fun b q e => ?_⟩
  · have q := off_some e
    exact off_at q.1 (by rw [upd_ne q.1]; exact q.2.1) q.2.2
  · rw [h] at e
    cases e
    exact ⟨r', upd_same⟩
  · have n : b ≠ p := fun z => by
      rw [z, h] at e
      cases e
    exact ⟨q, by rw [upd_ne n]; exact e, id⟩
theorem Keep.of_grow {p : Addr} {H J : Hp} (g : Grow H J) : Keep p H J := by
  refine ⟨fun b u e => ?_, fun l r e => ⟨r, g.at e⟩, g.t⟩
  have z := off_some e
  exact off_at z.1 (g.at z.2.1 z.2.2) z.2.2
theorem Keep.of_same {p : Addr} {H J : Hp} (h : Same H J) : Keep p H J := Keep.of_grow (Grow.of_same h)
theorem Keep.new {p q : Addr} {H : Hp} {o : HO} (h : H q = none) : Keep p H (upd H q o) := Keep.of_same fun b u e => by
  rw [upd_ne (ne_of_none e h)]
  exact e
theorem Keep.at {p a : Addr} {H J : Hp} {o : HO} (k : Keep p H J) (n : a ≠ p) (h : H a = some o) (nt : ∀ q, o ≠ .tbl q := by intro _ z; cases z) : J a = some o :=
  (off_some (k.s a o (off_at n h nt))).2.1
/-- an object that was not yet there is changed -/
theorem Keep.write {p q : Addr} {G J : Hp} {o : HO} (k : Keep p G J) (h : G q = none) (n : q ≠ p) : Keep p G (upd J q o) := by
  refine ⟨fun b u e => ?_, fun m r e => ?_, k.t.put h⟩
  · have z := off_some e
    exact off_at z.1 (by rw [upd_ne (ne_of_none z.2.1 h)]; exact k.at z.1 z.2.1 z.2.2) z.2.2
  · obtain ⟨r', q⟩ := k.h m r e
    exact ⟨r', by rw [upd_ne n.symm]; exact q⟩
theorem seq_off {K : PySem.W.Frag} {p a : Addr} {H : Hp} {xs : List V} (n : a ≠ p) (h : SqL K H a xs) : SqL K (off p H) a xs := by
  rcases h with (h | ⟨o, h⟩) | h
  · exact Or.inl (Or.inl (off_at n h))
  · exact Or.inl (Or.inr ⟨o, off_at n h⟩)
  · exact Or.inr h
theorem Keep.seq {K : PySem.W.Frag} {p a : Addr} {H J : Hp} {xs : List V} (k : Keep p H J) (n : a ≠ p) (h : SqL K H a xs) : SqL K J a xs := off_in.seq (k.s.seq (seq_off n h))
theorem tup_off {K : PySem.W.Frag} {p a : Addr} {H : Hp} {xs ys : List V} (hp : H p = some (.lst ys)) (h : SqT K H a xs) : SqT K (off p H) a xs := by
  rcases h with (h | ⟨o, h⟩) | h
  · exact Or.inl (Or.inl (off_at (ne_of h hp (by intro z; cases z)) h))
  · exact Or.inl (Or.inr ⟨o, off_at (ne_of h hp (by intro z; cases z)) h⟩)
  · exact Or.inr h
/-! ### tuple(e for x in range(..) if t): numbers, told by the place -/
section
variable {X : Cx}
theorem cr_rangeOne : CallR X (.type "range") (fun vs H Q => ∃ j : Int, vs = [.int j] ∧ ∀ p, H p = none → Q (.ref p) (upd H p (.rng 0 j))) := by
  intro pins s σ H vs us Q I r h
  obtain ⟨j, rfl, q⟩ := h
  obtain ⟨u, rfl, t, rfl⟩ := vals1 r
  refine call_range_1 ⟨.ref s.heap.objs.size, upd H s.heap.objs.size (.rng 0 j), I.laid (t' := s.toks + 1 + 1) (fun b o e => Heap.get?_push_of_some _ e) (Nat.le_refl _) ?_, rfl, q _ (I.hok.fresh (Nat.le_refl _))⟩
  exact ⟨s.toks, t, s.toks + 1, Heap.get?_push_size _ rfl⟩
theorem cr_rangeTwo : CallR X (.type "range") (fun vs H Q => ∃ i j : Int, vs = [.int i, .int j] ∧ ∀ p, H p = none → Q (.ref p) (upd H p (.rng i j))) := by
  intro pins s σ H vs us Q I r h
  obtain ⟨i, j, rfl, q⟩ := h
  obtain ⟨u1, u2, rfl, ⟨t, rfl⟩, ⟨u, rfl⟩⟩ := vals2 r
  refine call_range_2 ⟨.ref s.heap.objs.size, upd H s.heap.objs.size (.rng i j), I.laid (t' := s.toks + 1) (fun b o e => Heap.get?_push_of_some _ e) (Nat.le_refl _) ?_, rfl, q _ (I.hok.fresh (Nat.le_refl _))⟩
  exact ⟨t, u, s.toks, Heap.get?_push_size _ rfl⟩
end
theorem vals_at {f : Nat → Int} : ∀ (l : List Nat) (us : List Value), us.length = l.length → (∀ (j : Nat) (v : Value), us[j]? = some v → ∃ i, l[j]? = some i ∧ ∃ t, v = .int (f i) t) → Vals (l.map fun i => V.int (f i)) us
  | [], [], _, _ => .nil
  | [], _ :: _, h, _ => by simp at h
  | _ :: _, [], h, _ => by simp at h
  | i :: l, u :: us, h, g => by
    obtain ⟨i', e, t, ht⟩ := g 0 u rfl
    have e' : i = i' := Option.some.inj e
    rw [List.map_cons]
    refine .cons (by rw [e']; exact ⟨t, ht⟩) (vals_at l us (by simpa using h) fun j v hv => ?_)
    obtain ⟨k, e2, z⟩ := g (j + 1) v hv
    exact ⟨k, e2, z⟩
/-- the tests and the element of a generator expression, at its i-th place, wherever its frame stands -/
def ElemOk (X : Cx) (scope : Scope) (x : Str) (ifs : List Expr) (elt : Expr) (lo : Int) (n : Nat) (pz : Nat → Bool) (f : Nat → Int) (P : Addr) (s1 : Shared) : Prop :=
  ∀ (cenv : Env) (A' : Around) (E' : Value → Shared → Prop) (i : Nat) (t : Tok) (s2 : Shared) (m2 : Str → Option Value), i < n → cenv.scope = scope → cenv.cells = cloFrom X.env.cells scope.names [] → A'.handled = none →
    s2.heap.Ns cenv.locals m2 → m2 x = some (.int (lo + i) t) → (∀ b o, b ≠ P → s1.heap.get? b = some o → s2.heap.get? b = some o) →
      wpAny (model X.prog X.w) A' (forIn ifs true fun c r => if r = true then do let ok ← isTrue c cenv (eval c cenv); pure (ForInStep.yield ok) else pure (ForInStep.yield r)) (fun ok s3 => ok = pz i ∧ PySem.Keeps s2 s3) E' s2 ∧
      (pz i = true → wpAny (model X.prog X.w) A' (eval elt cenv) (fun y s3 => (∃ u, y = .int (f i) u) ∧ PySem.Keeps s2 s3) E' s2)
def tTupG (X : Cx) (P : Addr) (scope : Scope) (x : Str) (ifs : List Expr) (elt : Expr) (te : TE) : TE := fun σ H Q => te σ H fun v H1 => ∃ (r : Addr) (lo hi : Int) (pz : Nat → Bool) (f : Nat → Int), v = .ref r ∧ H1 r = some (.rng lo hi) ∧ -(2 ^ 62) ≤ lo ∧ lo < 2 ^ 62 ∧ -(2 ^ 62) ≤ hi ∧ hi < 2 ^ 62 ∧
  (hi - lo).toNat ≤ sizeLine ∧ GxR.TabG H1 P ∧ (∀ pins s1, Inv X pins σ H1 s1 → ElemOk X scope x ifs elt lo (hi - lo).toNat pz f P s1) ∧
  ∀ (t : Addr) (H2 : Hp), GxR.Tabbed P H1 H2 → H2 t = none → Q (.ref t) (upd H2 t (.tup (((List.range (hi - lo).toNat).filter pz).map fun i => V.int (f i))))
section
variable {X : Cx}
theorem pe_tupG {c P : Addr} {elt iter : Expr} {ifs : List Expr} {x : Str} {px p pos gpos : Pos} {scope : Scope} {te : TE} {k : Nat}
    (hr : Room k X.A) (hg : Gl X "tuple") (hm : X.mg "tuple" = none) (TB : GxR.TabB X.base X.mg c P) (hcode : X.env.code = .ref c) (S : GxR.GenS X.env scope x) (hi : PE X iter te) (hs : ∀ v, genFold iter X.env v = pure v)
    (hc : X.calm = true) (he : starEach [.GeneratorExp elt [⟨.Name x px, iter, ifs, 0⟩] scope gpos] X.env = (false, eval (.GeneratorExp elt [⟨.Name x px, iter, ifs, 0⟩] scope gpos) X.env) :: starEach [] X.env := by rfl) :
    PE X (.Call (.Name "tuple" p) [.GeneratorExp elt [⟨.Name x px, iter, ifs, 0⟩] scope gpos] [] pos) (tTupG X P scope x ifs elt te) := by
  refine ⟨fun pins s σ H Q I h => ?_⟩
  refine wpAny_Call_Name_kw (ld_blt I hg hm (show bootBuiltins "tuple" = some (.type "tuple") by decide +kernel) ?_)
  refine PyProof.Rows.callWith_type1 ?_ he (by rfl)
  rw [he]
  show wpAny _ _ (spliced ((false, eval (.GeneratorExp elt [⟨.Name x px, iter, ifs, 0⟩] scope gpos) X.env) :: backTo pos (starEach [] X.env))) _ _ s
  refine Calls.spliced_cons ?_
  refine wpAny_GeneratorExp_walksQ (I.ok.hd hc) S.co (closure_ok S.free) S.cell S.dot S.loc S.kind (by have := hr.dp; omega) ?_ hs
  refine thn (hi.run pins s σ H _ I h) fun xv s1 ⟨v, H1, I1, r1, r, lo, hi', pz, f, ev, hR, b1, b2, b3, b4, hz, ⟨ps, hP, ht⟩, hE, q⟩ => ?_
  subst ev
  cases r1
  obtain ⟨ta, tb, tc, hRo⟩ := I1.hok r _ hR
  refine wpAny_pyIter_range hRo (small_one b1 b2 b3 b4) ?_
  have hn : Builtin.Range.rangeSize lo hi' 1 = ((hi' - lo).toNat : Int) := by
    rw [rangeSize_one]
    split <;> omega
  rw [hn]
  generalize hO : ({ cls := .type "range_iterator", data := .fields #[rawInt lo, rawInt ((hi' - lo).toNat : Int), rawInt 1] } : Obj) = ob
  have hIt : IsRangeIter (s1.heap.push ob) s1.heap.objs.size lo ((hi' - lo).toNat : Int) 1 := by
    rw [← hO]
    exact Heap.get?_push_size _ rfl
  have gP : s1.heap.get? P = some { cls := .none, data := .fields ps } := I1.hok P _ hP
  have Plt : P < s1.heap.objs.size := Heap.lt_size gP
  have gP2 : (s1.heap.push ob).get? P = some { cls := .none, data := .fields ps } := Heap.get?_push_of_some _ gP
  have cd : PySem.W.CodeHd (s1.heap.push ob) c P := TB.code.keeps fun b u e => Heap.get?_push_of_some _ (I1.bk b u e)
  have lim2 : (s1.heap.push ob).NoLimit := I1.nolimit.push ob
  have main : ∀ (code : Value) (h3 : Heap) (tk : Nat) (qs : Array Value), Heap.ExtBut P (s1.heap.push ob) h3 → (s1.heap.push ob).objs.size ≤ h3.objs.size → h3.get? P = some { cls := .none, data := .fields qs } → (∃ more, qs = ps ++ more) → TriplesOk qs.toList →
      wpAny (model X.prog X.w) X.A (builtinsFor X.env.globals X.env.builtins) (fun bi s4 =>
        ∃ Ia fp wr n0 Pf St0 pz F, Value.ref s1.heap.objs.size = .ref Ia ∧ (∀ A' : Around, A'.handled = none → Walks X.prog X.w A' Ia fp wr n0 Pf St0) ∧ St0 0 s4.heap ∧ (∀ b ∈ fp, b < s4.heap.objs.size) ∧ s4.heap.NoLimit ∧ cStatics ∉ wr ∧
          (∀ href : Heap, (∀ b o, s4.heap.get? b = some o → href.get? b = some o) →
            QuietGen X.prog X.w (genEnv scope (cloFrom X.env.cells scope.names []) s4.heap.objs.size code bi X.env) x ifs elt (List.range s4.heap.objs.size) wr Pf pz F href) ∧
          (∀ a h5 tk gs, gs.bare = true → s4.heap.objs.size < a → h5.objs.size = a + 1 → (∀ b o, s4.heap.get? b = some o → h5.get? b = some o) →
            WalksS X.prog X.w X.A.in4 a (a :: s4.heap.objs.size :: List.range s4.heap.objs.size) (s4.heap.objs.size :: wr) (GenOnlyQ s4.gens.size) (passing pz n0 0).length
              (fun j y => ∃ i, (passing pz n0 0)[j]? = some i ∧ F i y) (GenAt X.prog X.w X.A.in4 a s4.gens.size s4.heap.objs.size (List.range s4.heap.objs.size) wr pz n0 F) →
            GenAt X.prog X.w X.A.in4 a s4.gens.size s4.heap.objs.size (List.range s4.heap.objs.size) wr pz n0 F 0 { s4 with gens := s4.gens.push gs, toks := tk, heap := h5 } →
            wpAny (model X.prog X.w) X.A (spliced (backTo pos (starEach [] X.env)))
              (fun a_1 s' => wpAny (model X.prog X.w) X.A (call (.type "tuple") (.ref a :: a_1)) (EP X pins σ Q) X.xe s') X.xe { s4 with gens := s4.gens.push gs, toks := tk, heap := h5 })) X.xe { s1 with heap := h3, toks := tk } := by
    intro code h3 tk qs hx hsz gP3 hmore ht3
    obtain ⟨bm, bo, e1, e2, e3, e4, e5, e6, e7, e8⟩ := TB.bm
    have csP : cStatics ≠ P := fun e => by
      obtain ⟨_, hns, _⟩ := I1.nolimit
      obtain ⟨o', es, ep, ho, hd, _⟩ := hns
      rw [e, gP] at ho
      cases ho
      cases hd
    have cl : cStatics < s1.heap.objs.size := let ⟨_, hns, _⟩ := I1.nolimit; hns.lt
    have sz2 : (s1.heap.push ob).objs.size = s1.heap.objs.size + 1 := Heap.size_push ..
    have kp3 : ∀ b u, b ≠ P → s1.heap.get? b = some u → h3.get? b = some u := fun b u hb e => hx b u hb (Heap.get?_push_of_some _ e)
    refine wpAny_builtinsFor (m := X.mg) (by rw [I1.ok.glob]; exact ((I1.mod.glob.keeps I1.bk).push ob).extBut hx TB.gP) e1 e2 (kp3 _ _ e4 (I1.bk _ _ e5)) e6 e7 e8 ?_
    refine ⟨s1.heap.objs.size, [s1.heap.objs.size], [s1.heap.objs.size], (hi' - lo).toNat, (fun i v => i < (hi' - lo).toNat ∧ ∃ t, v = .int (lo + (i : Nat) * 1) t), _, pz, (fun i y => ∃ u, y = .int (f i) u), rfl, (fun A' hA => (Walks.range hA _ lo 1 _).bound), ?_, ?_, lim2.extBut hx csP, ?_, ?_, ?_⟩
    · show IsRangeIter h3 s1.heap.objs.size (lo + ((0 : Nat) : Int) * 1) (((hi' - lo).toNat : Int) - ((0 : Nat) : Int)) 1
      have z1 : lo + ((0 : Nat) : Int) * 1 = lo := by simp
      have z2 : ((hi' - lo).toNat : Int) - ((0 : Nat) : Int) = ((hi' - lo).toNat : Int) := by simp
      rw [z1, z2]
      exact hx _ _ (Nat.ne_of_gt Plt) hIt
    · intro b hb
      rw [List.mem_singleton.mp hb]
      show s1.heap.objs.size < h3.objs.size
      omega
    · intro z
      exact Nat.ne_of_lt cl (List.mem_singleton.mp z)
    · intro href hh
      have old : ∀ (s2 : Shared), (∀ b ∈ List.range h3.objs.size, b ∉ [s1.heap.objs.size] → ∀ o, href.get? b = some o → s2.heap.get? b = some o) → ∀ b o, b ≠ P → s1.heap.get? b = some o → s2.heap.get? b = some o := fun s2 hk b o hb e => by
        have lt1 := Heap.lt_size e
        refine hk b (List.mem_range.mpr (Heap.lt_size (kp3 b o hb e))) (fun z => ?_) o (hh b o (kp3 b o hb e))
        rw [List.mem_singleton.mp z] at lt1
        exact Nat.lt_irrefl _ lt1
      refine ⟨fun A' E' i v s2 m2 hA hv hns hm2 hk => ?_, fun A' E' i v s2 m2 hA hv hp hns hm2 hk => ?_⟩
      · obtain ⟨hi1, t, rfl⟩ := hv
        exact (hE pins s1 I1 _ A' E' i t s2 m2 hi1 rfl rfl hA hns (by rw [hm2]; simp) (old s2 hk)).1
      · obtain ⟨hi1, t, rfl⟩ := hv
        exact (hE pins s1 I1 _ A' E' i t s2 m2 hi1 rfl rfl hA hns (by rw [hm2]; simp) (old s2 hk)).2 hp
    · intro g h5 tk5 gs bare hlt5 hsz5 hk5 W5 g0
      refine Calls.spliced_nil ?_
      have len0 : (passing pz (hi' - lo).toNat 0) = (List.range (hi' - lo).toNat).filter pz := by
        unfold passing
        rw [List.drop_zero]
      refine call_tuple_gen W5.in4_3 (fun i s9 h9 => h9.1.typeIs) g0 (fun b hb => ?_) List.mem_cons_self (fun s' acc hm' hacc => ?_) ?_
      · show b < h5.objs.size
        have a5 : h5.objs.size = g + 1 := hsz5
        have a6 : h3.objs.size < g := hlt5
        rw [a5]
        rcases List.mem_cons.mp hb with z | z
        · rw [z]
          exact Nat.lt_succ_self g
        · rcases List.mem_cons.mp z with z | z
          · rw [z]
            exact Nat.lt_succ_of_lt a6
          · have z2 : b < h3.objs.size := List.mem_range.mp z
            exact Nat.lt_succ_of_lt (Nat.lt_trans z2 a6)
      · obtain ⟨more, em⟩ := hmore
        have nw : ∀ b u, s1.heap.get? b = some u → b ∉ h3.objs.size :: [s1.heap.objs.size] := fun b u e hb => by
          have hl := Heap.lt_size e
          rcases List.mem_cons.mp hb with z | z
          · rw [z] at hl
            have h9 : (h3.objs.size : Nat) < s1.heap.objs.size := hl
            omega
          · rw [List.mem_singleton.mp z] at hl
            exact Nat.lt_irrefl _ hl
        have J := GxR.inv_tab (more := more) (h' := s'.heap) (g' := s'.gens) (d' := s'.drawn) (t' := s'.toks) I1 hP (fun b u hb e => hm'.heap b u (nw b u e) (hk5 b u (kp3 b u hb e)))
          (by rw [← em]; exact hm'.heap P _ (nw P _ gP) (hk5 P _ gP3)) (AllBare.movedS (I1.bare.push bare) hm')
        rw [GxR.sh_eta s1 s' hm'.os] at J
        have tabbed : GxR.Tabbed P H1 (upd H1 P (.tbl (ps ++ more))) := ⟨⟨ps ++ more, upd_same, by rw [← em]; exact ht3⟩, fun b hb => upd_ne hb⟩
        have sz : (((List.range (hi' - lo).toNat).filter pz).map fun i => V.int (f i)).length ≤ sizeLine := by
          rw [List.length_map]
          exact Nat.le_trans (List.length_filter_le _ _) (by rw [List.length_range]; exact hz)
        have vv : Vals (((List.range (hi' - lo).toNat).filter pz).map fun i => V.int (f i)) acc.toList := by
          refine vals_at _ _ ?_ fun j y hy => ?_
          · rw [Array.length_toList, hacc.1, len0]
          · obtain ⟨i, e9, u, z⟩ := hacc.2 j y (by simpa using hy)
            exact ⟨i, by rw [← len0]; exact e9, u, z⟩
        refine ⟨.ref _, _, J.laid (t' := s'.toks) (o := .tup _) (fun b o' z => Heap.get?_push_of_some _ z) (Nat.le_refl _) ⟨sz, acc.toList, vv, _, Heap.get?_push_size _ rfl, rfl, _, rfl⟩, rfl, q _ _ tabbed (J.hok.fresh (Nat.le_refl _))⟩
      · rw [len0]
        exact Nat.le_trans (List.length_filter_le _ _) (by rw [List.length_range]; exact hz)
  refine ⟨lim2, ?_⟩
  cases hf : codeAmong gpos ps.toList with
  | none =>
    refine wpAny_genexprCodeX hcode (cd.code gP2 ht) (cd.tab gP2) hf fun c' h' tk hx hge hlt hco' _ htab' _ => ?_
    obtain ⟨_, _, _, _, _, _, _, _, _, _, _, _, _, _, _, _, _, _, _, htr, _⟩ := hco'
    exact main _ h' tk _ hx (Nat.le_trans hge (Nat.le_of_lt hlt)) htab'.2 ⟨_, rfl⟩ htr
  | some cv =>
    refine wpAny_genexprCode_hit hcode (cd.code gP2 ht) hf ?_
    exact main cv (s1.heap.push ob) s1.toks ps (Heap.ExtBut.refl _ _) (Nat.le_refl _) gP2 ⟨#[], by simp⟩ ht
end
/-! ### the end of a law whose defs hold generator expressions: the tables of their code objects are tracked -/
def LawDoesT (P : Program) (w : World) (K : PySem.W.Frag) (mg : Str → Option Value) (base : Heap) (st : Stmt) (N : List Str) (f : Addr) (cs : List (Addr × Addr)) : Prop :=
  ∀ (cdv : Value) (s : Shared) (H : Hp) (a : Addr) (ns : List Int), ns.length ≤ 63 → (∀ p ∈ cs, H p.2 = some (.tbl #[])) → SqL K H a (ns.map V.int) →
    ∃ t, PSs (cxOf CX0 P w K mg base N "law" (defScope st) f cdv callerA [] s H E0).nox (defBody st) t ∧
      t { nx := fun _ _ => False, rt := fun v _ => v = .bl true } (start N [.ref a]) H
theorem law_atT {P : Program} {w : World} {K : PySem.W.Frag} {mg : Str → Option Value} {base : Heap} {st : Stmt} {N : List Str} {f a : Addr} {fd : FuncData} {s : Shared} {H : Hp} {ns : List Int} {x : Str} {cs : List (Addr × Addr)}
    (F : Fun K "law" "law" st f fd) (S : FnScope N [x] (defScope st)) (hr : Room 60 callerA) (D : LawDoesT P w K mg base st N f cs) (hT : ∀ p ∈ cs, H p.2 = some (.tbl #[]))
    (e0 : Env0 P w K mg base callerA [] s H) (hb : BindsTo s fd ⟨[.ref a], []⟩ [(x, .ref a)]) (hl : ns.length ≤ 63) (hS : SqL K H a (ns.map V.int)) :
    codeAny (model P w) callerA (.call (.ref f) ⟨[.ref a], []⟩) (CR CX0 [] P w H s (fun v _ => v = .bl true) E0) s := by
  obtain ⟨oc, od, kV, doc, pm, an, cdv, ct, osl, rfl, lk, hcd⟩ := F.ex
  have heap0 : K.In s.heap := e0.mod.kin.keeps fun b o e => (e0.bs b o e).1
  have lim0 := e0.mod.nolimit.keeps fun b o e => (e0.bs b o e).1
  have vals : Vals [V.ref a] [Value.ref a] := .cons rfl .nil
  refine codeAny_call_function hr.depth (heap0 _ _ lk) rfl S.co S.gen rfl (PySem.W.codeRec_of heap0 hcd) (hb _ _ _ _ ?_)
  refine wpAny_newFunctionEnv_cells S.kind (fun y hy => ?_) fun env he s1 ic => ?_
  · have ey : y = (x, Value.ref a) := List.mem_singleton.mp hy
    rw [ey]
    rcases S.par x (List.mem_singleton.mpr rfl) with q | q
    · exact Or.inl q
    · exact Or.inr ⟨q, PySem.W.cellsFrom_some _ _ _ (Or.inl q)⟩
  · subst he
    refine ⟨lim0.keeps ic.toInCall.keep, codeAny_func ?_⟩
    obtain ⟨t, pt, q⟩ := D cdv s H a ns hl hT hS
    have I := inv_start (CX := CX0) (E := E0) (cd := cdv) (f := f) (qual := "law") S hr.hd e0 rfl vals ic
    refine wpAny_mono (pt.nox.run [] s1 _ H _ I q) ?_ ?_
    · intro fl s2 h
      cases fl with
      | ret u =>
        obtain ⟨v, _, H2, J, rv, e⟩ := h
        exact ⟨v, H2, J.os, J.bare, J.base, J.hok, rv, e⟩
      | next => exact (let ⟨_, _, _, z⟩ := h; False.elim z)
      | brk => exact (let ⟨_, _, _, z⟩ := h; False.elim z)
      | cont => exact (let ⟨_, _, _, z⟩ := h; False.elim z)
    · exact fun _ _ z => z
/-- the tables, or the script -/
def tabsAt (cs : List (Addr × Addr)) (G : Hp) : Hp := fun b => if b ∈ cs.map (·.2) then some (.tbl #[]) else G b
/-- what is known of a def's code at the head's heap -/
def CodeKnown (mg : Str → Option Value) (h : Heap) (nm : Str) : Prop :=
  ∃ (a : Addr) (o : Obj) (fd : FuncData) (c P : Addr), mg nm = some (.ref a) ∧ h.get? a = some o ∧ o.data = .func fd ∧ fd.code = .ref c ∧ h.IsCode c P #[] ∧ h.TableAt c P #[]
theorem law_walkT {l : PySem.W.OpenLaw} {q : Program} {loose : List Str} {XP : (Str → Option Value) → Heap → Prop} {YP : World → Heap → Prop} {d : DefRec} {K : Params → PySem.W.Frag} {x : Str} {st : Stmt} {N : List Str} {nms : List Str}
    (hn : l.most = some 63) (hdf : d.params.defaults = []) (S : FnScope N [x] (defScope st)) (hY : ∀ (w : World) (h : Heap), YP w h → (K w.params).In h) (hrec : ∀ nm ∈ nms, ((recsOf q).any fun e => e.name == nm) = true)
    (Fm : ∀ (w : World) (mg : Str → Option Value) (fa : Addr) (h : Heap), (K w.params).In h → h.Ns mainGlobals mg → mg d.name = some (.ref fa) → (∀ nm ∈ nms, CodeKnown mg h nm) →
      ∃ (fd : FuncData) (cs : List (Addr × Addr)), Fun (K w.params) "law" "law" st fa fd ∧ (∀ (s : Shared) (u : Value), BindsTo s fd ⟨[u], []⟩ [(x, u)]) ∧
        (∀ p ∈ cs, h.get? p.2 = some { cls := .none, data := .fields #[] } ∧ (K w.params).lookup p.2 = none ∧ PySem.W.CodeHd h p.1 p.2 ∧ h.IsCode p.1 p.2 #[] ∧ h.TableAt p.1 p.2 #[]) ∧
        ∀ base : Heap, (K w.params).In base → (∀ p ∈ cs, GxR.TabB base mg p.1 p.2) → LawDoesT l.prog w (K w.params) mg base st N fa cs) :
    PySem.W.WalkO q loose XP YP l.row.toRowW d [] (fun f vs => PySem.call f vs) := by
  refine Att.attach_call hn hdf fun w s₀ s1 mg mb fa o pm cd doc a vs ns G Y ho hd hcd hmg hobj hints hlen hgen => ?_
  have hK := hY w _ Y
  have known : ∀ nm ∈ nms, CodeKnown mg s1.heap nm := fun nm hm => by
    obtain ⟨e, he, en⟩ := List.any_eq_true.mp (hrec nm hm)
    have en' : e.name = nm := beq_iff_eq.mp en
    rw [← en']
    exact G.T.tab e he
  obtain ⟨fd, cs, F, hbind, hcs, D⟩ := Fm w mg fa _ hK G.T.g hmg known
  have rv := vals_ints hints
  let u : HO := .frz { cls := .type "list", data := .seq vs.toArray } (.lst (ns.map V.int))
  let free : Bool := ((K w.params).lookup a).isNone
  let H : Hp := tabsAt cs (onlyAt a u free)
  have isT : ∀ b, b ∈ cs.map (·.2) → s1.heap.get? b = some { cls := .none, data := .fields #[] } ∧ (K w.params).lookup b = none := fun b hb => by
    obtain ⟨p, hp, e⟩ := List.mem_map.mp hb
    rw [← e]
    exact ⟨(hcs p hp).1, (hcs p hp).2.1⟩
  have aT : a ∉ cs.map (·.2) := fun z => by
    have e := (isT a z).1
    rw [hobj] at e
    cases e
  have cases3 : ∀ b, H b = none ∨ (b ∈ cs.map (·.2) ∧ H b = some (.tbl #[])) ∨ (b = a ∧ free = true ∧ H b = some u) := fun b => by
    by_cases hb : b ∈ cs.map (·.2)
    · exact Or.inr (Or.inl ⟨hb, if_pos hb⟩)
    · rcases onlyAt_cases a u free b with n | ⟨e, fr, y⟩
      · exact Or.inl ((if_neg hb).trans n)
      · exact Or.inr (Or.inr ⟨e, fr, (if_neg hb).trans y⟩)
  have lenV : vs.length = ns.length := hints.length
  have small : ns.length ≤ sizeLine := Nat.le_trans hlen (by decide)
  have hS : SqL (K w.params) H a (ns.map V.int) := by
    cases e : (K w.params).lookup a with
    | none =>
      refine Or.inl (Or.inr ⟨{ cls := .type "list", data := .seq vs.toArray }, ?_⟩)
      show tabsAt cs (onlyAt a u free) a = some u
      unfold tabsAt
      rw [if_neg aT]
      exact if_pos ⟨rfl, by show ((K w.params).lookup a).isNone = true; rw [e]; rfl⟩
    | some ob =>
      have e1 := (hK a ob e).symm.trans hobj
      cases Option.some.inj e1
      exact Or.inr ⟨_, vs.toArray, _, e, rfl, rfl, rfl, by rw [List.size_toArray, lenV]; exact small, by rw [List.toList_toArray]; exact rv⟩
  have hHok : HOk l.prog w H s1.heap := fun b z e => by
    rcases cases3 b with n | ⟨hb, y⟩ | ⟨rfl, _, y⟩
    · cases n.symm.trans e
    · cases y.symm.trans e
      exact (isT b hb).1
    · cases y.symm.trans e
      exact ⟨hobj, by rw [List.length_map]; exact small, vs, _, rv, hobj⟩
  have isN : ∀ {b : Addr} {ob : Obj}, s1.heap.get? b = some ob → (∀ its n, ob.data ≠ .seq its n) → ob.data ≠ .fields #[] → H b = none := fun {b ob} e nd nf => by
    rcases cases3 b with n | ⟨hb, _⟩ | ⟨rfl, _, _⟩
    · exact n
    · cases (isT b hb).1.symm.trans e
      exact absurd rfl nf
    · cases hobj.symm.trans e
      exact absurd rfl (nd _ _)
  have nsK : ∀ {b : Addr} {m : Str → Option Value}, s1.heap.Ns b m → (hidT s1.heap H).Ns b m := by
    rintro b m ⟨ob, es, ep, e, dt, r⟩
    exact ⟨ob, es, ep, hidT_get e (isN e (fun its n z => nomatch dt.symm.trans z) fun z => nomatch dt.symm.trans z), dt, r⟩
  have inB : (K w.params).In (hidT s1.heap H) := fun b ob e => hidT_get (hK b ob e) (by
    rcases cases3 b with n | ⟨hb, _⟩ | ⟨rfl, fr, _⟩
    · exact n
    · rw [(isT b hb).2] at e
      cases e
    · have fr' : ((K w.params).lookup b).isNone = true := fr
      rw [e] at fr'
      cases fr')
  have hM : Mod (K w.params) mg (hidT s1.heap H) := ⟨inB, nsK G.T.g, ⟨mb, nsK G.T.b, G.T.builtins⟩, let ⟨mc, h1, h2⟩ := G.T.nolimit; ⟨mc, nsK h1, h2⟩⟩
  have TB : ∀ p ∈ cs, GxR.TabB (hidT s1.heap H) mg p.1 p.2 := fun p hp => by
    obtain ⟨t1, t2, t3, _⟩ := hcs p hp
    refine ⟨?_, ?_, fun z => ?_⟩
    · obtain ⟨ob, us, file, tf, flags, tg, inF, text, tt, e1, r1, r2, r3, r⟩ := t3
      refine ⟨ob, us, file, tf, flags, tg, inF, text, tt, hidT_get e1 (isN e1 (fun its n z => ?_) fun z => ?_), r1, r2, r3, r⟩
      · rw [r2] at z
        cases z
      · rw [r2] at z
        cases z
        simp at r3
    · obtain ⟨bm, ob, b1, b2, b3, b4, b5, b6⟩ := G.T.bmain
      have nG : bm ≠ mainGlobals := fun z => by
        obtain ⟨o', es, ep, e, hd', _⟩ := G.T.g
        rw [z, e] at b3
        cases b3
        rw [hd'] at b6
        cases b6
      have nP : bm ≠ p.2 := fun z => by
        rw [z, t1] at b3
        cases b3
        cases b6
      refine ⟨bm, ob, b1, b2, nG, nP, hidT_get b3 (isN b3 (fun its n z => ?_) fun z => ?_), b4, b5, b6⟩
      · rw [b6] at z
        cases z
      · rw [b6] at z
        cases z
    · obtain ⟨o', es, ep, e, hd', _⟩ := G.T.g
      rw [z, t1] at e
      cases e
      cases hd'
  have e0 : Env0 l.prog w (K w.params) mg (hidT s1.heap H) callerA [] s1 H :=
    { frames := rfl, mod := hM, bs := fun b ob e => of_hidT e, bsz := Nat.le_of_eq (hidT_size _ _), funs := True.intro, frf := fun b hb => (List.not_mem_nil hb).elim, hok := hHok, bare := .of_eq hgen }
  have hT : ∀ p ∈ cs, H p.2 = some (.tbl #[]) := fun p hp => if_pos (List.mem_map.mpr ⟨p, hp, rfl⟩)
  refine codeAny_mono (law_atT F S ⟨rfl, by decide, by decide⟩ (D _ inB TB) hT e0 (hbind s1 (.ref a)) hlen hS) fun r s2 h => ?_
  cases r with
  | error e => exact False.elim h
  | ok fl =>
    cases fl with
    | next => exact False.elim h
    | brk => exact False.elim h
    | cont => exact False.elim h
    | ret v0 =>
      obtain ⟨v, H2, os, bare, un, hok2, r2, ev⟩ := h
      have ev' : v = .bl true := ev
      rw [ev'] at r2
      have e3 : v0 = Value.bool true := r2
      rw [e3]
      have key : ∀ b ob, b ∉ cs.map (·.2) → s1.heap.get? b = some ob → s2.heap.get? b = some ob := fun b ob nb e => by
        rcases cases3 b with n | ⟨hb, _⟩ | ⟨rfl, _, y⟩
        · exact un.keep b ob e n List.not_mem_nil List.not_mem_nil
        · exact absurd hb nb
        · have k2 := hok2 b _ (un.frzs b _ _ y)
          cases hobj.symm.trans e
          exact k2.1
      have grown : ∀ p ∈ cs, ∃ more : Array Value, s2.heap.get? p.2 = some { cls := .none, data := .fields more } := fun p hp => by
        obtain ⟨more, z⟩ := un.tbls p.2 #[] (hT p hp)
        exact ⟨_, hok2 p.2 _ z⟩
      refine ⟨rfl, ⟨fun b ob e => ?_, fun b ob e => ?_⟩, os, bare⟩
      · by_cases hb : b ∈ cs.map (·.2)
        · obtain ⟨p, hp, ep⟩ := List.mem_map.mp hb
          obtain ⟨more, hm⟩ := grown p hp
          rw [← ep] at e ⊢
          obtain ⟨t1, _, t3, _⟩ := hcs p hp
          rw [t1] at e
          cases e
          exact Or.inr (Or.inl ⟨(t3.tab t1).isCodeTable, rfl, #[], more, rfl, by rw [Array.empty_append]; exact hm⟩)
        · exact Or.inl (key b ob hb e)
      · by_cases hb : b ∈ cs.map (·.2)
        · obtain ⟨p, hp, ep⟩ := List.mem_map.mp hb
          obtain ⟨more, hm⟩ := grown p hp
          rw [← ep]
          exact ⟨_, hm⟩
        · exact ⟨ob, key b ob hb e⟩
/-! ### expressions inside a generator expression's own frame, whatever has come since the state s -/
theorem keepsT {a b c : Shared} (x : PySem.Keeps a b) (y : PySem.Keeps b c) : PySem.Keeps a c := by
  obtain ⟨h, t, rfl, k⟩ := x
  obtain ⟨h2, t2, rfl, k2⟩ := y
  exact ⟨h2, t2, rfl, fun b o e => k2 b o (k b o e)⟩
theorem keepsK {a b : Shared} (x : PySem.Keeps a b) (t : Nat) : PySem.Keeps a { b with toks := t } := keepsT x (GxR.keeps_tok b t)
theorem keepsH {a b : Shared} (x : PySem.Keeps a b) : ∀ c o, a.heap.get? c = some o → b.heap.get? c = some o := by
  obtain ⟨h, t, rfl, k⟩ := x
  exact k
def GV (P : Program) (w : World) (A : Around) (env : Env) (s : Shared) (e : Expr) (R : Value → Prop) : Prop :=
  ∀ (E : Value → Shared → Prop) (s1 : Shared), PySem.Keeps s s1 → wpAny (model P w) A (eval e env) (fun y s2 => R y ∧ PySem.Keeps s s2) E s1
abbrev IsI (i : Int) : Value → Prop := fun y => ∃ t, y = .int i t
section
variable {P : Program} {w : World} {A : Around} {env : Env} {s : Shared} {a b : Expr} {pos p : Pos} {x : Str}
theorem gv_loc {m : Str → Option Value} {v : Value} {R : Value → Prop} (hk : env.scope.kind = .function) (hl : env.scope.names.lookup x = some .local) (hn : s.heap.Ns env.locals m) (hv : m x = some v) (r : R v) (hd : (x == ("__debug__" : Str)) = false := by decide) :
    GV P w A env s (.Name x p) R := fun E s1 k =>
  wpAny_Name (wpAny_loadName_local hk (show env.scope.names.lookup x = some .local from hl) (hn.keeps (keepsH k)) hv ⟨r, k⟩) hd
theorem gv_free {c : Addr} {v : Value} {R : Value → Prop} (hk : env.scope.kind = .function) (hl : env.scope.names.lookup x = some .free) (hc : env.cells.lookup x = some c) (hv : s.heap.IsCell c (some v)) (r : R v) (hd : (x == ("__debug__" : Str)) = false := by decide)
    (hcd : (x == ("__classdict__" : Str)) = false := by decide) : GV P w A env s (.Name x p) R := fun E s1 k =>
  wpAny_Name (wpAny_loadName_free hk (show env.scope.names.lookup x = some .free from hl) hc (let ⟨o, ho, hd⟩ := hv; ⟨o, keepsH k _ _ ho, hd⟩) ⟨r, k⟩ hcd) hd
theorem gv_int {i : Int} {j : Nat} : GV P w A env s (.Constant (.int i) j pos) (IsI i) := fun E s1 k => wpAny_Constant_int ⟨⟨_, rfl⟩, keepsK k _⟩
theorem gv_sub {i j : Int} (ha : GV P w A env s a (IsI i)) (hb : GV P w A env s b (IsI j)) : GV P w A env s (.BinOp a .Sub b pos) (IsI (i - j)) := fun E s1 k => by
  refine wpAny_BinOp (wpAny_mono (ha E s1 k) (fun y s2 ⟨⟨t, e⟩, k2⟩ => wpAny_mono (hb E s2 k2) (fun z s3 ⟨⟨u, e'⟩, k3⟩ => ?_) fun _ _ h => h) fun _ _ h => h)
  subst e
  subst e'
  exact sub_int ⟨⟨_, rfl⟩, keepsK k3 _⟩
theorem gv_add {i j : Int} (ha : GV P w A env s a (IsI i)) (hb : GV P w A env s b (IsI j)) : GV P w A env s (.BinOp a .Add b pos) (IsI (i + j)) := fun E s1 k => by
  refine wpAny_BinOp (wpAny_mono (ha E s1 k) (fun y s2 ⟨⟨t, e⟩, k2⟩ => wpAny_mono (hb E s2 k2) (fun z s3 ⟨⟨u, e'⟩, k3⟩ => ?_) fun _ _ h => h) fun _ _ h => h)
  subst e
  subst e'
  exact add_int ⟨⟨_, rfl⟩, keepsK k3 _⟩
/-- the item of a tuple -/
theorem gv_ix {t : Addr} {xs : List V} {its : List Value} {i : Int} {v : V} {R : Value → Prop} (ha : GV P w A env s a (· = .ref t)) (hb : GV P w A env s b (IsI i)) (ht : IsTup s.heap t its.toArray) (r : Vals xs its) (hz : xs.length ≤ sizeLine)
    (he : atI xs i = some v) (hr : ∀ u, RelV v u → R u) (hs : PlainIx b) : GV P w A env s (.Subscript a b pos) R := fun E s1 k => by
  refine Subscript_ (wpAny_mono (ha E s1 k) (fun y s2 ⟨e, k2⟩ => wpAny_mono (hb E s2 k2) (fun z s3 ⟨⟨u, e'⟩, k3⟩ => ?_) fun _ _ h => h) fun _ _ h => h)
  subst e
  subst e'
  obtain ⟨j, h1, h2, h3, h4, h5⟩ := atI_get he
  obtain ⟨w', ew, rw'⟩ := r.get h2
  have hl := r.length
  have hn := line63
  have ht3 := ht.keeps (keepsH k3)
  exact subscriptTail_builtinR (x := w') ht3.typeIs slot_tuple_getitem.lookup
    (getItem_tuple (j := j) (Q := fun r' s' => r' = w' ∧ (R r' ∧ PySem.Keeps s s')) ht3 (by omega) (by omega) (by rw [List.size_toArray, ← hl]; exact h1) (by simpa using ew) ⟨rfl, hr _ rw', k3⟩) (hs _ _)
/-- no test -/
theorem gt_nil {i : Bool} (hi : i = true) : ∀ E : Value → Shared → Prop, wpAny (model P w) A (forIn ([] : List Expr) true fun c r => if r = true then do let ok ← isTrue c env (eval c env); pure (ForInStep.yield ok) else pure (ForInStep.yield r)) (fun ok s3 => ok = i ∧ PySem.Keeps s s3) E s := fun E => by
  subst hi
  exact wpAny_pure ⟨rfl, GxR.keeps_refl _⟩
/-- one test: a != b -/
theorem gt_ne {i j : Int} (ha : GV P w A env s a (IsI i)) (hb : GV P w A env s b (IsI j)) (hm : behindInMarks .NotEq b = false := by with_unfolding_all rfl) : ∀ E : Value → Shared → Prop, wpAny (model P w) A (forIn [Expr.Compare a [.NotEq] [b] pos] true fun c r => if r = true then do let ok ← isTrue c env (eval c env); pure (ForInStep.yield ok) else pure (ForInStep.yield r)) (fun ok s3 => ok = (i != j) ∧ PySem.Keeps s s3) E s := fun E => by
  rw [List.forIn_cons]
  simp only [if_true, List.forIn_nil]
  refine wpAny_bind (wpAny_bind (wpAny_isTrue_Compare1 (wpAny_mono (ha E s (GxR.keeps_refl _)) (fun y s2 ⟨⟨t, e⟩, k2⟩ => wpAny_mono (hb E s2 k2) (fun z s3 ⟨⟨u, e'⟩, k3⟩ => ?_) fun _ _ h => h) fun _ _ h => h) hm))
  subst e
  subst e'
  exact ne_int (wpAny_truthy_bool (wpAny_pure (wpAny_pure ⟨rfl, k3⟩)))
end
/-- a captured name, where the generator expression starts -/
theorem Inv.freeAt {X : Cx} {pins : List (Addr × Obj)} {σ : L2.St} {H : Hp} {s : Shared} {i : Nat} {x : Str} {v : V} (I : Inv X pins σ H s) (hN : X.N[i]? = some x) (e : σ[i]? = some (some v)) (hc : X.env.scope.names.lookup x = some .cell) :
    ∃ u c, RelV v u ∧ X.env.cells.lookup x = some c ∧ s.heap.IsCell c (some u) := by
  obtain ⟨m, hn, hl⟩ := I.loc
  obtain ⟨u, r, l⟩ := hl i x v hN e (Or.inr (Or.inl hc))
  rcases l with ⟨hk, _⟩ | ⟨_, c, hc', hcell⟩
  · have hk' : X.env.scope.names.lookup x = some .local := hk
    rw [hc] at hk'
    cases hk'
  · exact ⟨u, c, r, hc', hcell⟩
theorem clo_at {cells : List (Str × Addr)} {x : Str} {c : Addr} (hc : cells.lookup x = some c) : ∀ (names : List (Str × NameKind)) (acc : List (Str × Addr)), ((x, NameKind.free) ∈ names ∨ acc.lookup x = some c) → (cloFrom cells names acc).lookup x = some c
  | [], _, h => h.elim (fun z => absurd z List.not_mem_nil) id
  | (n, k) :: r, acc, h => by
    unfold cloFrom
    by_cases hk : k = .free
    · rw [if_pos (by rw [hk]; rfl)]
      refine clo_at hc r _ ?_
      by_cases nx : x = n
      · subst nx
        refine Or.inr ?_
        rw [List.lookup_cons, hc]
        simp
      · rcases h with h | h
        · rcases List.mem_cons.mp h with z | z
          · exact absurd (congrArg Prod.fst z) nx
          · exact Or.inl z
        · refine Or.inr ?_
          rw [List.lookup_cons]
          have : (x == n) = false := beq_eq_false_iff_ne.mpr nx
          rw [this]
          exact h
    · rw [if_neg (by simpa using hk)]
      refine clo_at hc r acc ?_
      rcases h with h | h
      · rcases List.mem_cons.mp h with z | z
        · exact absurd (congrArg Prod.snd z).symm hk
        · exact Or.inl z
      · exact Or.inr h
theorem gen_free {sc sc' : Scope} {n : Nat} (h : (sc'.names.all fun y => y.2 != NameKind.free || sc.names.lookup y.1 == some NameKind.cell) = true) : ∀ y ∈ sc'.names, y.2 = .free → ∃ c, (cellsFrom n sc.names []).lookup y.1 = some c := fun y hy hf => by
  have q := List.all_eq_true.mp h y hy
  rw [hf] at q
  refine cell_has ?_
  simpa using q
/-- a def whose code object is known -/
theorem Fun.okC {P : Program} {w : World} {K : PySem.W.Frag} {mg : Str → Option Value} {base : Heap} {x qual : Str} {st : Stmt} {f c : Addr} {fd : FuncData} {N ps : List Str} {k : Nat} {sp : Sp} (F : Fun K x qual st f fd) (hc : fd.code = .ref c) (S : FnScope N ps (defScope st)) (len : ∀ vs H Q E, sp vs H Q E → vs.length = ps.length)
    (hbody : ∀ (A : Around) (outer : List Env) (s : Shared) (H : Hp) (vs : List V) (Q : VK) (E : XK), Room k (A.deeper (envOfC qual (defScope st) s.heap.objs.size f (.ref c))) → sp vs H Q E →
      ∃ t, PSs (cxOf CX0 P w K mg base N qual (defScope st) f (.ref c) A outer s H E).nox (defBody st) t ∧ t { nx := fun _ H' => Q .non H', rt := Q } (start N vs) H) : FnOk P w K mg base CX0 (k + 1) f fd ps sp := by
  obtain ⟨oc, od, kV, doc, pm, an, cdv, ct, osl, rfl, lk, hcd⟩ := F.ex
  have hc' : cdv = .ref c := hc
  subst hc'
  refine fn_of lk hcd S len fun A outer s H vs Q E hr hsp => ?_
  obtain ⟨t, h, q⟩ := hbody A outer s H vs Q E hr hsp
  exact ⟨t, h.nox, q⟩
/-! ### the tables of the text's code objects -/
def TabField (o : Obj) (P : Addr) : Prop := ∃ vs, o.data = .fields vs ∧ vs[11]? = some (.ref P)
theorem tab_mk {K : PySem.W.Frag} {h : Heap} {mg : Str → Option Value} {nm : Str} {f c P : Addr} {o oc : Obj} {fd : FuncData} (X : K.In h) (hm : mg nm = some (.ref f)) (l : K.lookup f = some o) (hd : o.data = .func fd) (hc : fd.code = .ref c)
    (kk : K.lookup c = some oc) (vv : TabField oc P) (nn : K.lookup P = none) (ck : CodeKnown mg h nm) :
    h.get? P = some { cls := .none, data := .fields #[] } ∧ K.lookup P = none ∧ PySem.W.CodeHd h c P ∧ h.IsCode c P #[] ∧ h.TableAt c P #[] := by
  obtain ⟨a, o', fd', c', P', m1, m2, m3, m4, m5, m6⟩ := ck
  rw [hm] at m1
  cases m1
  rw [X _ _ l] at m2
  cases m2
  rw [hd] at m3
  cases m3
  rw [hc] at m4
  cases m4
  obtain ⟨vs, v1, v2⟩ := vv
  have e : P' = P := by
    obtain ⟨⟨o2, vs2, t1, _, t3, t4⟩, _⟩ := m6
    rw [X _ _ kk] at t1
    cases t1
    rw [v1] at t3
    cases t3
    rw [v2] at t4
    cases t4
    rfl
  subst e
  exact ⟨m6.2, nn, PySem.W.CodeHd.of m5 m6, m5, m6⟩
/-! ### lists or tuples; zip of tuples -/
section
variable {X : Cx}
theorem ixSK (K : PySem.W.Frag) (h : X.K = K) : IxR X (rIx K) := h ▸ ix_seq
end
def SqA (K : PySem.W.Frag) (H : Hp) (a : Addr) (xs : List V) : Prop := SqL K H a xs ∨ SqT K H a xs
theorem SqA.same {K : PySem.W.Frag} {H J : Hp} {a : Addr} {xs : List V} (s : Same H J) (h : SqA K H a xs) : SqA K J a xs := h.elim (fun z => .inl (s.seq z)) fun z => .inr (sameT s z)
theorem walk_zipT {K : PySem.W.Frag} {a b : Addr} {xs ys : List V} {n : Nat} (hn : n = min xs.length ys.length) : Walk (RZ.ItzT K a b) n (fun H => SqT K H a xs ∧ SqT K H b ys) (YPair (fun i => xs[i]?) (fun i => ys[i]?)) := by
  refine ⟨fun i H hi q => ⟨xs, ys, xs[i], ys[i], q.1, q.2, List.getElem?_eq_getElem (by omega), List.getElem?_eq_getElem (by omega)⟩, fun H q => ⟨xs, ys, q.1, q.2, by omega⟩, fun i H v H' hi q y => ?_⟩
  obtain ⟨T, x, y', e, hT, eH, f, g⟩ := y
  exact ⟨T, x, y', e, hT, eH, f _ q.1, g _ q.2⟩
/-- two names, in a comprehension -/
theorem pg_pairK (K : PySem.W.Frag) {X : Cx} {i j k : Nat} {x y : Str} {p q pos : Pos} (hK : X.K = K) (hc : X.calm = true) (hN : X.N.Nodup) (hi : X.N[i]? = some x) (hx : Loc X.env.scope x) (hj : X.N[j]? = some y) (hy : Loc X.env.scope y)
    (hf : X.fn x = true ∨ X.env.scope.names.lookup x = some .local := by first | exact .inl rfl | exact .inr rfl) (hf' : X.fn y = true ∨ X.env.scope.names.lookup y = some .local := by first | exact .inl rfl | exact .inr rfl) :
    PG X (.Tuple [.Name x p, .Name y q] k pos) (gTup K 2 (gCons (gName i) (gCons (gName j) gNil))) := by
  subst hK
  exact pg_tup hc (pgs_cons (pg_name hN hi hx hf) (pgs_cons (pg_name hN hj hy hf') pgs_nil))
/-! ### (x,) * k, long -/
def rRepOne (K : PySem.W.Frag) : R2 := fun x y H Q => ∃ (l : Addr) (k : Int) (v : V), x = .ref l ∧ y = .int k ∧ SqT K H l [v] ∧ 2 ≤ k ∧ k ≤ 9000 ∧ ∀ p, H p = none → Q (.ref p) (upd H p (.tup (List.replicate k.toNat v)))
theorem one_rep (u : Value) (m : Nat) : (List.foldl (fun a b => a ++ b) #[] (List.replicate m #[u])) = (List.replicate m u).toArray := by
  have e := size_rep [u] m
  rw [List.flatten_replicate_singleton] at e
  exact e
theorem op_repOne {X : Cx} : OpR X (binaryOp .Mult) (rRepOne X.K) := by
  rintro pins s σ H _ _ _ _ Q I rx ry ⟨l, k, v, rfl, rfl, hT, lo, hi, q⟩
  cases rx
  obtain ⟨tk, rfl⟩ := ry
  obtain ⟨its, r, ⟨⟨cl, dd, dat, sl⟩, ho, rfl, n, rfl⟩, _⟩ := I.tuple hT
  cases r with
  | cons ru rn =>
  rename_i u us
  cases rn
  have fits : (List.replicate k.toNat u).toArray.size ≤ sizeLine := by
    rw [List.size_toArray, List.length_replicate]
    exact Nat.le_trans (by omega : k.toNat ≤ 9000) (by decide)
  have sz1 : (([u].toArray.size : Nat) : Int) * k = k := Int.one_mul k
  have far : (decide (k < -(2 ^ 63)) || decide (k ≥ 2 ^ 63)) = false := by
    rw [Bool.or_eq_false_iff]
    exact ⟨decide_eq_false (by omega), decide_eq_false (by omega)⟩
  have few : Builtin.Tuple.tupleTooMany (([u].toArray.size : Nat) * k) = false := by
    rw [sz1]
    show decide _ = false
    refine decide_eq_false ?_
    have := sizeLine_eq
    omega
  have many : (([u].toArray.isEmpty || k == 1) = false) ∧ ((decide (k ≤ 0) || [u].toArray.isEmpty) = false) := by
    refine ⟨?_, ?_⟩
    · show (false || k == 1) = false
      rw [Bool.false_or]
      exact beq_eq_false_iff_ne.mpr (by omega)
    · show (decide (k ≤ 0) || false) = false
      rw [Bool.or_false]
      exact decide_eq_false (by omega)
  have W := tuple_mulW l [u].toArray n dd sl k tk far many.1 many.2 (by rw [sz1]; omega) few (by rw [show [u].toArray = #[u] from rfl, one_rep]; exact fits)
  have isT : s.TypeIs (.ref l) "tuple" := ⟨_, ho, rfl⟩
  refine wpAny_binaryOp_repeat_ref (T := "tuple") (U := "int") (by decide) isT (fun z => typeIs_int z k tk) noFill_tuple_mul F.fills_int_mul F.slot_int_rmul repeat_tuple F.slot_int_index.lookup ?_
  refine call_meets F.slot_int_rmul (typeIs_int s k tk) F.entry_int_rmul (F.args_int_rmul_2 _ _) (int_rmul_tuple k tk l [u].toArray n dd sl) ⟨ho, rfl, isT, ?_⟩
  refine call_meets F.slot_tuple_mul isT F.entry_tuple_mul (F.args_tuple_mul_2 _ _) W ⟨ho, ?_⟩
  rw [show [u].toArray = #[u] from rfl, one_rep]
  have vals : Vals (List.replicate k.toNat v) (List.replicate k.toNat u) := by
    generalize k.toNat = m
    induction m with
    | zero => exact .nil
    | succ m ih => exact .cons ru ih
  refine ⟨.ref s.heap.objs.size, _, I.laid (t' := s.toks) (o := .tup (List.replicate k.toNat v)) (fun b o e => Heap.get?_push_of_some _ e) (Nat.le_refl _) ⟨?_, _, vals, _, Heap.get?_push_size _ rfl, rfl, _, rfl⟩, rfl, q _ (I.hok.fresh (Nat.le_refl _))⟩
  rw [List.length_replicate]
  exact Nat.le_trans (by omega : k.toNat ≤ 9000) (by decide)
theorem nil_tup (ds : List PyData) : PyData.eqv (.tuple ds) (.tuple []) = ds.isEmpty := by
  cases ds <;> simp [PyData.eqv, PyData.eqvAll]
/-! ### set(list of numbers), as a set that can be sorted; sorted(set(..)) -/
/-- the new, empty set -/
abbrev noneYet (w : World) : Obj := { cls := .type "set", dict := none, data := .set #[] 0 (.fresh 0 0 (!w.params.followText "set-order")) }
section
variable {P : Program} {w : World} {A : Around} {E : Value → Shared → Prop} {s : Shared}
theorem set_of_list {src : Addr} {vals : Array Value} (ns : List Int) {Q : Value → Shared → Prop} (calm : A.handled = none) (isL : s.heap.IsList src vals) (nums : IntsAre vals.toList ns) (few : ns.length + 1 < scanBound)
    (fin : ∀ (g : Heap) (tk m : Nat), SetR w g s.heap.objs.size (fun j => decide (j ∈ ns)) m → m ≤ ns.length → (∀ b o, s.heap.get? b = some o → g.get? b = some o) → Q (.ref s.heap.objs.size) { s with heap := g, toks := tk }) :
    wpAny (model P w) A (call (.type "set") [.ref src]) Q E s := by
  have many : vals.size = ns.length := (Array.length_toList (xs := vals)).symm.trans nums.length
  obtain ⟨cc, cl, ho⟩ := F.called_set.mro
  have ⟨m1, m2, m3, m4⟩ := And.intro F.called_set.made (And.intro F.called_set.sub (And.intro F.called_set.notType F.called_set.canCreate))
  have m5 := F.typeCall_set_1 (Value.ref src)
  refine wpAny_call (codeAny_of_tree (show wpAny _ _ (callAny (.type "set") _) _ _ _ from ?_))
  refine wpAny_pure (And.intro (Code.quiet_builtin _ (by decide +kernel)) (codeAny_builtin F.entry_type_call ?_))
  rw [Around.under_plain (weight_type_call_type "set" [Value.ref src] []) rfl]
  repeat (any_goals (first | assumption | wp_step))
  refine codeAny_mono (code_set_led1 (Value.ref src) (E := E) (Q₁ := fun u t => u = .ref s.heap.objs.size ∧ t = { s with heap := s.heap.push (noneYet w) }) (And.intro rfl rfl)) fun r1 t1 z1 => ?_
  cases r1 with
  | error _ => exact z1
  | ok f1 =>
  cases f1 with
  | next => exact z1.elim
  | brk => exact z1.elim
  | cont => exact z1.elim
  | ret u =>
  obtain ⟨rfl, rfl⟩ := z1
  have at0 : (s.heap.push (noneYet w)).get? s.heap.objs.size = some (noneYet w) := Heap.get?_push_size _ rfl
  have ty0 : Shared.TypeIs { s with heap := s.heap.push (noneYet w) } (.ref s.heap.objs.size) "set" := ⟨_, at0, rfl⟩
  have n1 := F.called_set.init.lookup
  have n2 := F.called_set.init.bind (Value.ref s.heap.objs.size)
  repeat (any_goals (first | assumption | wp_step))
  refine codeAny_mono (codeAny_call_builtin (R := wants (fun r t => r = .none ∧ ∃ (g : Heap) (tk m : Nat), t = { s with heap := g, toks := tk } ∧ SetR w g s.heap.objs.size (fun j => decide (j ∈ ns)) m ∧ m ≤ ns.length ∧ (∀ b o, s.heap.get? b = some o → g.get? b = some o)) E)
    F.called_set.init.plain F.entry_set_init (check_set_init_1 ty0 ?_)) fun r2 t2 z2 => ?_
  · obtain ⟨⟨lc, ld, lx, ls⟩, at1, k1, len, k2⟩ := isL
    simp only at k1 k2
    subst k1 k2
    have at2 : (s.heap.push (noneYet w)).get? src = some { cls := .type "list", dict := ld, data := .seq vals len, slots := ls } := Heap.get?_push_of_some _ at1
    have o1 := F.sub_list_set
    have o2 := F.sub_list_frozenset
    have o3 : (Value.type "list" == Value.type "dict") = false := by decide
    have isL2 : (s.heap.push (noneYet w)).IsList src vals := ⟨_, at2, rfl, len, rfl⟩
    unfold Builtin.«set.__init__» noKeywords Builtin.Frozenset.updateFrom
    generalize keep : pyIter = PI
    wp_walk
    subst keep
    refine wpAny_pyIter_list isL2 (wpAny_bind (wpAny_runValue ?_))
    have lt := Heap.lt_size at1
    have sz : (s.heap.push (noneYet w)).objs.size = s.heap.objs.size + 1 := Heap.size_push ..
    have calm3 : A.in1.in1.in1.handled = none := by simp only [Around.in1, calm]
    have apart : src ≠ (s.heap.push (noneYet w)).objs.size := fun z => by
      rw [z, sz] at lt
      exact absurd lt (Nat.not_lt_of_le (Nat.le_succ _))
    have out : s.heap.objs.size ∉ [(s.heap.push (noneYet w)).objs.size, src] := fun z => by
      rcases List.mem_cons.mp z with z | z
      · rw [sz] at z
        exact absurd z (Nat.ne_of_lt (Nat.lt_succ_self _))
      · rw [List.mem_singleton.mp z] at lt
        exact Nat.lt_irrefl _ lt
    have each : ∀ (i : Nat) (v : Value), vals[i]? = some v → ∃ k t, ns[i]? = some k ∧ v = .int k t := fun i v hv => by
      have li : i < ns.length := many ▸ (Array.getElem?_eq_some_iff.mp hv).1
      obtain ⟨t, e⟩ := PyProof.Rows.IntsAre.int_at nums i v (by rw [Array.getElem?_toList]; exact hv)
      exact ⟨ns[i], t, List.getElem?_eq_getElem li, by rw [e, List.getD_eq_getElem?_getD, List.getElem?_eq_getElem li]; rfl⟩
    refine set_update_ints (Walks.list calm3 _ src apart vals).toS s.heap.objs.size out ns many few each (vals.size - 0) 0 _ rfl (Nat.zero_le _) ⟨⟨_, Heap.get?_push_size _ rfl, rfl, rfl⟩, isL2.push _⟩
      ⟨0, Nat.le_refl 0, setR_new_at (Heap.get?_push_of_some _ at0)⟩ fun t m mv lm Rt => ?_
    obtain ⟨g, gg, dd, tk, os⟩ := t
    obtain rfl : gg = s.gens := mv.gens
    obtain rfl : dd = s.drawn := mv.drawn
    obtain rfl : os = s.os := mv.os
    show wpAny _ _ _ _ _ _
    refine wpAny_pure (show wpAny _ _ (ret Value.none) _ _ _ from wpAny_pure ⟨rfl, g, tk, m, rfl, Rt, many ▸ lm, fun b o e => ?_⟩)
    have lb := Heap.lt_size e
    refine mv.heap b o (fun z => ?_) (Heap.get?_push_of_some _ (Heap.get?_push_of_some _ e))
    rcases List.mem_cons.mp z with z | z
    · rw [z] at lb
      exact Nat.lt_irrefl _ lb
    · rw [List.mem_singleton.mp z, sz] at lb
      exact absurd lb (Nat.not_lt_of_le (Nat.le_succ _))
  · cases r2 with
    | error _ => exact z2
    | ok f2 =>
    cases f2 with
    | next => exact z2.elim
    | brk => exact z2.elim
    | cont => exact z2.elim
    | ret _ =>
    obtain ⟨rfl, g, tk, m, rfl, Rt, lm, old⟩ := z2
    repeat (any_goals (first | assumption | wp_step))
    exact fin g tk m Rt lm old
end
section
variable {X : Cx}
def rSetN (K : PySem.W.Frag) (w : World) : List V → Hp → VK → Prop := fun xs H Q => ∃ (l : Addr) (ns : List Int), xs = [V.ref l] ∧ SqA K H l (ns.map V.int) ∧ ns.length < 4000 ∧ ∀ (p : Addr) (m : Nat), m ≤ ns.length → H p = none → Q (.ref p) (upd H p (SetO w p (fun j => decide (j ∈ ns)) m))
theorem cr_setN (hc : X.calm = true) : CallR X (.type "set") (rSetN X.K X.w) := by
  intro pins s σ H xs us Q I r h
  obtain ⟨l, ns, rfl, hq, h64, q⟩ := h
  rw [Vals.ref1 r]
  have few : ns.length + 1 < scanBound := Nat.lt_trans (by omega : ns.length + 1 < 4001) (by decide)
  rcases hq with hq | hq
  · obtain ⟨its, rv, pl, _⟩ := I.list hq
    refine set_of_list ns (I.ok.hd hc) pl.isList (RZ.intsAre_vals rv) few fun g tk m R lm old => ?_
    exact ⟨.ref _, _, I.laid (t' := tk) old (Nat.le_refl _) (setO_new R), rfl, q _ m lm (I.hok.fresh (Nat.le_refl _))⟩
  · obtain ⟨its, rv, pl, _⟩ := I.tuple hq
    refine call_set_tupI ns (I.ok.hd hc) (show s.heap.IsTuple l its.toArray from pl) (RZ.intsAre_vals rv) few fun g tk m R lm old => ?_
    exact ⟨.ref _, _, I.laid (t' := tk) old (Nat.le_refl _) (setO_new R), rfl, q _ m lm (I.hok.fresh (Nat.le_refl _))⟩
end
/-- strictly rising lists of the same numbers are the same -/
theorem rising_eq : ∀ {a b : List Int}, a.Pairwise (· < ·) → b.Pairwise (· < ·) → (∀ k, k ∈ a ↔ k ∈ b) → a = b
  | [], [], _, _, _ => rfl
  | [], y :: b, _, _, h => absurd ((h y).mpr List.mem_cons_self) List.not_mem_nil
  | x :: a, [], _, _, h => absurd ((h x).mp List.mem_cons_self) List.not_mem_nil
  | x :: a, y :: b, ha, hb, h => by
    obtain ⟨ha1, ha2⟩ := List.pairwise_cons.mp ha
    obtain ⟨hb1, hb2⟩ := List.pairwise_cons.mp hb
    have e : x = y := by
      rcases List.mem_cons.mp ((h x).mp List.mem_cons_self) with z | z
      · exact z
      · rcases List.mem_cons.mp ((h y).mpr List.mem_cons_self) with u | u
        · exact u.symm
        · have := hb1 x z
          have := ha1 y u
          omega
    subst e
    have t : a = b := rising_eq ha2 hb2 fun k => by
      constructor
      · intro z
        rcases List.mem_cons.mp ((h k).mp (List.mem_cons_of_mem _ z)) with u | u
        · have := ha1 k z
          omega
        · exact u
      · intro z
        rcases List.mem_cons.mp ((h k).mpr (List.mem_cons_of_mem _ z)) with u | u
        · have := hb1 k z
          omega
        · exact u
    rw [t]
/-- out is the numbers of ns in order, each once -/
def Sorted (out ns : List Int) : Prop := out.Pairwise (· < ·) ∧ ∀ k, k ∈ out ↔ k ∈ ns
theorem Sorted.eq {a b ns ms : List Int} (ha : Sorted a ns) (hb : Sorted b ms) (h : ∀ k, k ∈ ns ↔ k ∈ ms) : a = b := rising_eq ha.1 hb.1 fun k => by rw [ha.2, h, hb.2]
/-! ### t.index(k), t a tuple of numbers -/
def rIdxT (K : PySem.W.Frag) : V → List V → Hp → VK → Prop := fun x xs H Q => ∃ (p : Addr) (ns : List Int) (k : Int) (j : Nat), x = .ref p ∧ xs = [.int k] ∧ SqT K H p (ns.map V.int) ∧ ns[j]? = some k ∧ (∀ m, m < j → ns[m]? ≠ some k) ∧ Q (.int (j : Nat)) H
theorem mt_idxT {X : Cx} : MtR X "tuple.index" (rIdxT X.K) := by
  rintro pins s σ H _ _ v us Q I rx rs ⟨p, ns, k, j, rfl, rfl, hq, hk, first, q⟩
  cases rx
  obtain ⟨u, rfl, t, rfl⟩ := vals1 rs
  obtain ⟨its, r, ⟨⟨cl, dd, dat, sl⟩, ho, rfl, n, rfl⟩, _⟩ := I.tuple hq
  have len : its.toArray.size = ns.length := by
    have := r.length
    rw [List.length_map] at this
    rw [List.size_toArray]
    exact this.symm
  have place : ∀ (m : Nat) (hm : m < its.toArray.size), ∃ y t', ns[m]? = some y ∧ its.toArray[m] = Value.int y t' := by
    intro m hm
    have lm : m < ns.length := len ▸ hm
    obtain ⟨v', hv, t', rfl⟩ := r.get (i := m) (x := .int ns[m]) (by rw [List.getElem?_map, List.getElem?_eq_getElem lm]; rfl)
    exact ⟨ns[m], t', List.getElem?_eq_getElem lm, by simpa using (List.getElem?_eq_some_iff.mp hv).2⟩
  have lj : j < its.toArray.size := len ▸ (List.getElem?_eq_some_iff.mp hk).1
  have W := TI.tuple_indexAt p its.toArray n dd sl (.int k t) (eqU (.int k)) j lj (by
    obtain ⟨y, t', h1, h2⟩ := place j lj
    rw [h2, show y = k from Option.some.inj (h1.symm.trans hk)]
    exact beq_self_eq_true k) (by
    intro m hm lt
    obtain ⟨y, t', h1, h2⟩ := place m hm
    rw [h2]
    exact beq_eq_false_iff_ne.mpr fun e => first m lt (by rw [h1, e]))
  refine call_meets PySem.F.slot_tuple_index ⟨_, ho, rfl⟩ PySem.F.entry_tuple_index (PySem.F.args_tuple_index_2 _ _) W ⟨ho, fun w' hw => ?_, .int (j : Nat), H, I.tok _, ⟨_, rfl⟩, q⟩
  refine mem_eqAt (x := .int k) ⟨t, rfl⟩ rfl r ?_ w' (by simpa using hw)
  rw [List.all_map]
  exact List.all_eq_true.mpr fun _ _ => rfl
/-! ### tuples made by tuple(list), known to the object; their methods -/
def FrzT (H : Hp) (a : Addr) (xs : List V) : Prop := ∃ o : Obj, o.cls = .type "tuple" ∧ o.dict = none ∧ H a = some (.frz o (.tup xs))
theorem FrzT.sq {K : PySem.W.Frag} {H : Hp} {a : Addr} {xs : List V} (h : FrzT H a xs) : SqT K H a xs := let ⟨o, _, _, e⟩ := h; Or.inl (Or.inr ⟨o, e⟩)
section
variable {X : Cx}
def rTupF (K : PySem.W.Frag) : List V → Hp → VK → Prop := fun xs H Q => ∃ (p : Addr) (ys : List V), xs = [.ref p] ∧ SqL K H p ys ∧ ∀ (l : Addr) (o : Obj), o.cls = .type "tuple" → o.dict = none → H l = none → Q (.ref l) (upd H l (.frz o (.tup ys)))
theorem cr_tupF : CallR X (.type "tuple") (rTupF X.K) := by
  rintro pins s σ H xs us Q I r ⟨p, ys, rfl, hq, q⟩
  rw [Vals.ref1 r]
  obtain ⟨its, rv, pl, hz⟩ := I.list hq
  have few := rv.length
  refine call_tuple_list pl.isList (fun g old => ?_) (by rw [List.size_toArray]; omega)
  have I1 : Inv X pins σ H { s with heap := g } := I.kept (t' := s.toks) old
  let o : Obj := { cls := .type "tuple", data := .seq its.toArray }
  have ok : ObjOk X.prog X.w (upd H g.objs.size (.frz o (.tup ys))) (g.push o) g.objs.size (.frz o (.tup ys)) := ⟨Heap.get?_push_size _ rfl, hz, its, rv, IsTup.new _ _⟩
  exact ⟨.ref g.objs.size, _, I1.laid (t' := s.toks) (fun b u e => Heap.get?_push_of_some _ e) (Nat.le_refl _) ok, rfl, q _ o rfl rfl (I1.hok.fresh (Nat.le_refl _))⟩
def tBMT (r : V → List V → Hp → VK → Prop) (to : TE) (t : TA) : TE := fun σ H Q => to σ H fun x H1 => (∃ (a : Addr) (xs : List V), x = .ref a ∧ FrzT H1 a xs) ∧ t σ H1 fun vs H2 => r x vs H2 Q
variable {o e : Expr} {es : List Expr} {to : TE} {t : TA} {name id : String} {apos cpos : Pos} {r : V → List V → Hp → VK → Prop}
theorem pe_bmT (slot : Slot "tuple" name id) (des : typeOf (.builtin id) = pure (.type "method_descriptor")) (hm : MtR X id r) (ho : PE X o to) (ha : PA X (e :: es) t)
    (plainO : attributeBase o name X.env (eval o X.env) = eval o X.env := by rfl)
    (form : ((backTo cpos (starEach (e :: es) X.env)).all (fun x => !x.1) && (backToKw cpos (keywordEach [] X.env)).all (fun x => x.1.isSome) && decide ((e :: es).length + ([] : List Keyword).length + (if ([] : List Keyword).isEmpty then 0 else 1) < 30)) = true := by rfl)
    (row : (apos.endLine == cpos.line) = true := by rfl) (trees : starEach (e :: es) X.env = (false, eval e X.env) :: starEach es X.env := by rfl)
    (noStar : (backTo cpos (starEach es X.env)).any (·.1) = false := by rfl) : PE X (.Call (.Attribute o name apos) (e :: es) [] cpos) (tBMT r to t) := by
  refine ⟨fun pins s σ H Q I h => wpAny_Call_method_late plainO form row rfl (thn (ho.run pins s σ H _ I h) fun v s1 ⟨x, H1, I1, r1, ⟨a, xs, ex, o1, c1, d1, f1⟩, q1⟩ => ?_)⟩
  subst ex
  cases r1
  obtain ⟨got, _⟩ := I1.hok a _ f1
  refine ⟨"tuple", id, PySem.F.plainAttrs_tuple, slot, des, ⟨o1, got, c1⟩, fun b eb => ?_, ?_⟩
  · cases eb
    exact ⟨o1, got, d1⟩
  · have run := ha.run cpos pins s1 σ H1 _ I1 q1
    rw [trees] at run ⊢
    refine Calls.callWith_builtin ?_ (Calls.evalArgs_plain (thn run fun us s2 ⟨vs, H2, I2, r2, q2⟩ => hm pins s2 σ H2 (.ref a) vs (.ref a) us Q I2 rfl r2 q2))
    show (false || (backTo cpos (starEach es X.env)).any (·.1)) = false
    rw [noStar]
    rfl
end
/-! ### generator expressions whose elements are new objects -/
/-- a value that is brought at a place, with the objects that were made for it -/
abbrev Bring : Type := Nat → Value → List (Addr × Obj) → Prop
def bringP (C : Addr) (fp wr : List Addr) (pz : Nat → Bool) (n : Nat) (B : Bring) : Protocol := fun m s0 v s back =>
  (∃ i news, (passing pz n 0)[(passing pz n 0).length - 1 - m]? = some i ∧ B i v news ∧ (news.map Prod.fst).Nodup ∧ ∀ p ∈ news, p.1 ≠ C ∧ p.1 ∉ wr ∧ s0.heap.get? p.1 = none ∧ s.heap.get? p.1 = some p.2) ∧
  GenSince C wr s0 s ∧ ∀ z : Shared, (∀ b ∈ C :: fp, ∀ o, s.heap.get? b = some o → z.heap.get? b = some o) → back (.send .none) z
def endP (C : Addr) (wr : List Addr) : GenEnd := fun k s0 r s => r = .ok .next ∧ (k = 0 ∧ GenSince C wr s0 s)
structure Makes (P : Program) (w : World) (env : Env) (x : Str) (ifs : List Expr) (elt : Expr) (fp wr : List Addr) (It : Nat → Value → Prop) (pz : Nat → Bool) (B : Bring) (h0 : Heap) : Prop where
  quiet : QuietGen P w env x ifs elt fp wr It pz (fun _ _ => True) h0
  makes : ∀ (A' : Around) E' i v (s : Shared) m, A'.handled = none → It i v → pz i = true → s.heap.Ns env.locals m → m x = some v → (∀ b ∈ fp, b ∉ wr → ∀ o, h0.get? b = some o → s.heap.get? b = some o) →
    wpAny (model P w) A' (eval elt env) (fun y s2 => (∃ news, B i y news ∧ (news.map Prod.fst).Nodup ∧ ∀ p ∈ news, s.heap.get? p.1 = none ∧ s2.heap.get? p.1 = some p.2) ∧ PySem.Keeps s s2) E' s
theorem since_get {C : Addr} {wr : List Addr} {s0 s : Shared} (g : GenSince C wr s0 s) {b : Addr} (h1 : b ≠ C) (h2 : b ∉ wr) (h : s.heap.get? b = none) : s0.heap.get? b = none := by
  obtain ⟨h', t, rfl, k⟩ := g
  cases e : s0.heap.get? b with
  | none => rfl
  | some o => rw [k b o h1 h2 e] at h; cases h
section
variable {P : Program} {w : World} {A : Around} {elt iter : Expr} {x : Str} {px pos : Pos} {ifs : List Expr} {scope : Scope} {I : Addr} {fp wr : List Addr} {n : Nat} {It : Nat → Value → Prop} {St : Nat → Heap → Prop} {env : Env} {pz : Nat → Bool} {B : Bring} {h0 : Heap}
theorem bring_loop (calm : A.handled = none) (W : ∀ A' : Around, A'.handled = none → Walks P w A' I fp wr n It St) (live : ∀ i h, St i h → ∀ b ∈ wr, ∃ o, h.get? b = some o) (hx : env.kindOf x = some .local)
    (hk : (env.scope.kind == .class || (env.scope.kind == .module && env.locals != env.globals)) = false) (co : env.scope.isCoroutine = false) (out : env.locals ∉ fp) (M : Makes P w env x ifs elt fp wr It pz B h0) (k : Nat) :
    ∀ (i : Nat) (s0 s : Shared) (m : Str → Option Value), n - i = k → i ≤ n → St i s.heap → s.heap.Ns env.locals m → GenSince env.locals wr s0 s → (∀ b ∈ fp, b ∉ wr → ∀ o, h0.get? b = some o → s.heap.get? b = some o) →
      Seg (model P w) A (endP env.locals wr) (bringP env.locals fp wr pz n B) (passing pz n i).length s0 (.compLoop (.GeneratorExp elt [⟨.Name x px, iter, ifs, 0⟩] scope pos) 0 (.ref I) .none env)
        ((model P w).den (.compLoop (.GeneratorExp elt [⟨.Name x px, iter, ifs, 0⟩] scope pos) 0 (.ref I) .none env)) [] s := by
  have calm2 : (A.over (.compLoop (.GeneratorExp elt [⟨.Name x px, iter, ifs, 0⟩] scope pos) 0 (.ref I) .none env) []).handled = none := calm
  have notw : env.locals ∉ wr := fun z => out ((W A calm).sub _ z)
  induction k with
  | zero =>
    intro i s0 s m e le st ns since kp
    obtain rfl : i = n := by omega
    refine (?_ : Seg _ A _ _ _ s0 _ ((compTurn (.GeneratorExp elt [⟨.Name x px, iter, ifs, 0⟩] scope pos) 0 (.ref I) .none env).onRaise (leaving env)) [] s)
    rw [Sem.onRaise_eq_wrap, compTurn_gen]
    refine seg_bind_wrap (wpAny_standAt (seg_bind_wrap ((W _ calm2).done s _ _ st fun h' t k' => seg_end (.ok .next) ⟨rfl, ?_, since.step fun b o _ hw e => k' b o hw e⟩)))
    rw [passing_end]
    rfl
  | succ k ih =>
    intro i s0 s m e le st ns since kp
    have lt : i < n := by omega
    refine (?_ : Seg _ A _ _ _ s0 _ ((compTurn (.GeneratorExp elt [⟨.Name x px, iter, ifs, 0⟩] scope pos) 0 (.ref I) .none env).onRaise (leaving env)) [] s)
    rw [Sem.onRaise_eq_wrap, compTurn_gen]
    refine seg_bind_wrap (wpAny_standAt (seg_bind_wrap ((W _ calm2).item i s _ _ lt st fun v h1 t1 hv st1 k1 => seg_bind_wrap (wpAny_of_eq (rfl : letOwnedTupleGo (.Name x px) (.ref I) v = pure ()) (seg_bind_wrap (wpAny_assign_Name (wpAny_storeName_local hx (ns.at' fun o e => k1 _ o notw e) (fun h2 ns2 same2 => ?_) hk)))))))
    have old2 : ∀ b o, b ≠ env.locals → b ∉ wr → s.heap.get? b = some o → h2.get? b = some o := fun b o z1 z2 e => same2.extBut b o z1 (k1 b o z2 e)
    have st2 : St (i + 1) h2 := (W A calm).frame _ _ _ st1 fun b hb o e => same2.extBut b o (fun z => out (z ▸ hb)) e
    have kp2 : ∀ b ∈ fp, b ∉ wr → ∀ o, h0.get? b = some o → h2.get? b = some o := fun b hb z o e => old2 b o (fun y => out (y ▸ hb)) z (kp b hb z o e)
    refine seg_bind_wrap (wpAny_mono (M.quiet.tests _ _ i v _ _ calm2 hv ns2 (by simp) kp2) (fun ok s3 q => ?_) fun _ _ z => z)
    obtain ⟨rfl, h3, t3, rfl, k3⟩ := q
    have st3 : St (i + 1) h3 := (W A calm).frame _ _ _ st2 fun b _ o e => k3 b o e
    have since3 : GenSince env.locals wr s0 { s with heap := h3, toks := t3 } := since.step fun b o z1 z2 e => k3 b o (old2 b o z1 z2 e)
    have ns3 := ns2.keeps k3
    cases hp : pz i with
    | false =>
      rw [passing_false lt hp]
      rw [if_neg (by decide)]
      exact seg_again rfl (ih (i + 1) s0 _ _ (by omega) lt st3 ns3 since3 fun b hb z o e => k3 b o (kp2 b hb z o e))
    | true =>
      have yo : ∀ u, yieldOut env u = yieldValue u := fun u => by simp only [yieldOut, co, Bool.false_eq_true, if_false]
      rw [passing_true lt hp, List.length_cons, if_pos rfl]
      simp only [yo]
      rw [Sem.bind_eq_wrap', Sem.bind_eq_wrap', Sem.wrap_wrap, Sem.wrap_wrap]
      refine seg_wrap (wpAny_mono (M.makes _ _ i v _ _ calm2 hv hp ns3 (by simp) fun b hb z o e => k3 b o (kp2 b hb z o e)) (fun y s4 q => ?_) fun _ _ z => z)
      obtain ⟨⟨news, hB, nd, hn⟩, h4, t4, rfl, k4⟩ := q
      refine seg_at (seg_yield rfl rfl rfl ⟨⟨i, news, passing_here lt hp, hB, nd, fun p hp' => ?_⟩, since3.step fun b o _ _ e => k4 b o e, fun z hz => ?_⟩)
      · obtain ⟨n1, n2⟩ := hn p hp'
        have c1 : p.1 ≠ env.locals := fun e => by
          obtain ⟨ob, es, ep, ho, _⟩ := ns3
          rw [e] at n1
          exact absurd (ho.symm.trans n1) (by simp)
        have c2 : p.1 ∉ wr := fun hw => by
          obtain ⟨ob, ho⟩ := live _ _ st3 p.1 hw
          exact absurd (ho.symm.trans n1) (by simp)
        exact ⟨c1, c2, since_get since3 c1 c2 n1, n2⟩
      · exact seg_again rfl (ih (i + 1) z z _ (by omega) lt ((W A calm).frame _ _ _ st3 fun b hb o e => hz b (List.mem_cons_of_mem _ hb) o (k4 b o e)) ((ns3.keeps k4).at' fun o e => hz _ (List.mem_cons_self ..) o e) (GenSince.refl _ _ _)
          fun b hb y o e => hz b (List.mem_cons_of_mem _ hb) o (k4 b o (k3 b o (kp2 b hb y o e))))
end
/-! ### such an expression, started and drawn from -/
def Ready (P : Program) (w : World) (A : Around) (a : Addr) (g : Nat) (C : Addr) (fp wr : List Addr) (pz : Nat → Bool) (n : Nat) (B : Bring) (j : Nat) (s : Shared) : Prop :=
  s.heap.IsGen a g ∧ s.heap.NoLimit ∧ ∃ gs, s.gens[g]? = some gs ∧ ∀ z : Shared, (∀ b ∈ C :: fp, ∀ o, s.heap.get? b = some o → z.heap.get? b = some o) →
    gs.Goes (model P w) A.in1 (endP C wr) (bringP C fp wr pz n B) ((passing pz n 0).length - j) (.send .none) z
section
variable {P : Program} {w : World} {A : Around} {a C : Addr} {g : Nat} {fp wr : List Addr} {pz : Nat → Bool} {n j : Nat} {B : Bring} {s : Shared}
theorem Ready.keep {h' : Heap} {t : Nat} (R : Ready P w A a g C fp wr pz n B j s) (hcs : cStatics ∈ fp) (k : ∀ b ∈ a :: C :: fp, ∀ o, s.heap.get? b = some o → h'.get? b = some o) : Ready P w A a g C fp wr pz n B j { s with heap := h', toks := t } := by
  obtain ⟨⟨o, nm, qn, ho, r⟩, ⟨mc, c1, c2⟩, gs, e, go⟩ := R
  exact ⟨⟨o, nm, qn, k a (List.mem_cons_self ..) o ho, r⟩, ⟨mc, c1.at' fun o e => k cStatics (List.mem_cons_of_mem _ (List.mem_cons_of_mem _ hcs)) o e, c2⟩, gs, e, fun z hz => go z fun b hb o e => hz b hb o (k b (List.mem_cons_of_mem _ hb) o e)⟩
/-- where it stands: its own address, the frame's, what it goes over -/
structure Apart (A : Around) (a C : Addr) (fp wr : List Addr) : Prop where
  calm : A.handled = none
  aC : a ≠ C
  af : a ∉ fp
  sub : ∀ b ∈ wr, b ∈ fp
  room : A.depth < recursionLimit
  cs : cStatics ∈ fp
  csC : cStatics ≠ C
  csw : cStatics ∉ wr
theorem Ready.next (R : Ready P w A a g C fp wr pz n B j s) (T : Apart A a C fp wr) (hj : j < (passing pz n 0).length) {Q : Option Value → Shared → Prop} {E : Value → Shared → Prop}
    (q : ∀ v s' i news, (passing pz n 0)[j]? = some i → B i v news → (news.map Prod.fst).Nodup → (∀ p ∈ news, p.1 ≠ C ∧ p.1 ∉ wr ∧ s.heap.get? p.1 = none ∧ s'.heap.get? p.1 = some p.2) → Ready P w A a g C fp wr pz n B (j + 1) s' → Moved (C :: wr) (GenOnlyQ g) s s' → Q (some v) s') :
    wpAny (model P w) A (pyNext (.ref a)) Q E s := by
  obtain ⟨isg, lim, gs, e, go⟩ := R
  obtain ⟨m, hm⟩ : ∃ m, (passing pz n 0).length - j = m + 1 := ⟨(passing pz n 0).length - j - 1, by omega⟩
  rw [hm] at go
  have aw : a ∉ wr := fun z => T.af (T.sub a z)
  refine wpAny_with_toks (Nat.le_refl s.toks) (wpAny_pyNext_genexpQ (P := fun k s0 s1 => k = 0 ∧ GenSince C wr s0 s1) T.calm lim T.room isg e (go _ fun _ _ _ z => z) (fun v s1 gs' bare hv => ?_) (fun s1 z _ _ => absurd z.1 (Nat.succ_ne_zero m)))
  obtain ⟨⟨i, news, at_, hB, nd, hn⟩, ⟨h1, t1, rfl, k1⟩, back⟩ := hv
  rw [show (passing pz n 0).length - 1 - (m + 1 - 1) = j by omega] at at_
  intro tk
  have mv : Moved (C :: wr) (GenOnlyQ g) s (({ s.setGen g .running with heap := h1, toks := t1 } : Shared).setGen g gs') :=
    ⟨fun b o hb z => k1 b o (fun y => hb (y ▸ List.mem_cons_self ..)) (fun y => hb (List.mem_cons_of_mem _ y)) z, GenOnlyQ.of ((GenOnly.setGen s g .running).trans (GenOnly.setGen _ g gs')) (setGen_self (gs := .running) (setGen_self e)) bare, rfl, rfl, tk⟩
  refine q v _ i news at_ hB nd hn ⟨?_, ?_, gs', setGen_self (gs := .running) (setGen_self e), fun z hz => ?_⟩ mv
  · obtain ⟨o, nm, qn, ho, r⟩ := isg
    exact ⟨o, nm, qn, k1 a o T.aC aw ho, r⟩
  · obtain ⟨mc, c1, c2⟩ := lim
    exact ⟨mc, c1.at' fun o z => k1 cStatics o T.csC T.csw z, c2⟩
  · rw [show (passing pz n 0).length - (j + 1) = m by omega]
    exact back z hz
theorem Ready.done (R : Ready P w A a g C fp wr pz n B j s) (T : Apart A a C fp wr) (hj : j = (passing pz n 0).length) {Q : Option Value → Shared → Prop} {E : Value → Shared → Prop} (q : ∀ s', Moved (C :: wr) (GenOnlyQ g) s s' → Q none s') :
    wpAny (model P w) A (pyNext (.ref a)) Q E s := by
  obtain ⟨isg, lim, gs, e, go⟩ := R
  rw [hj, Nat.sub_self] at go
  refine wpAny_with_toks (Nat.le_refl s.toks) (wpAny_pyNext_genexpQ (P := fun k s0 s1 => k = 0 ∧ GenSince C wr s0 s1) T.calm lim T.room isg e (go _ fun _ _ _ z => z) (fun v s1 gs' _ hv => ?_) (fun s1 hp h' k => ?_))
  · obtain ⟨_, _, back⟩ := hv
    exact (back s1 fun _ _ _ z => z).elim
  · obtain ⟨_, h1, t1, rfl, k1⟩ := hp
    intro tk
    exact q _ ⟨fun b o hb z => k b o (k1 b o (fun y => hb (y ▸ List.mem_cons_self ..)) (fun y => hb (List.mem_cons_of_mem _ y)) z), GenOnlyQ.of ((GenOnly.setGen s g .running).trans (GenOnly.setGen _ g .finished)) (setGen_self (gs := .running) (setGen_self e)) rfl, rfl, rfl, tk⟩
/-- what has been brought so far: the values, and for each the objects made for it, none of which was there at first -/
structure Sofar (pz : Nat → Bool) (n : Nat) (B : Bring) (wr : List Addr) (h0 : Heap) (j : Nat) (acc : Array Value) (nss : List (List (Addr × Obj))) (s : Shared) : Prop where
  size : acc.size = j
  len : nss.length = j
  each : ∀ (k : Nat) v news, acc[k]? = some v → nss[k]? = some news → ∃ i, (passing pz n 0)[k]? = some i ∧ B i v news
  nd : (nss.flatten.map Prod.fst).Nodup
  there : ∀ p ∈ nss.flatten, p.1 ∉ wr ∧ h0.get? p.1 = none ∧ s.heap.get? p.1 = some p.2
theorem Sofar.more {h0 : Heap} {acc : Array Value} {nss : List (List (Addr × Obj))} {v : Value} {i : Nat} {news : List (Addr × Obj)} {s' : Shared} (F : Sofar pz n B wr h0 j acc nss s) (hi : (passing pz n 0)[j]? = some i) (hB : B i v news) (nd : (news.map Prod.fst).Nodup)
    (old : ∀ b o, b ∉ wr → s.heap.get? b = some o → s'.heap.get? b = some o) (fr : ∀ p ∈ news, p.1 ∉ wr ∧ h0.get? p.1 = none ∧ s.heap.get? p.1 = none ∧ s'.heap.get? p.1 = some p.2) : Sofar pz n B wr h0 (j + 1) (acc.push v) (nss ++ [news]) s' := by
  refine ⟨by rw [Array.size_push, F.size], by rw [List.length_append, List.length_singleton, F.len], fun k u ns h1 h2 => ?_, ?_, fun p hp => ?_⟩
  · rw [Array.getElem?_push, F.size] at h1
    by_cases e : k = j
    · subst e
      rw [if_pos rfl] at h1
      rw [List.getElem?_append_right (by rw [F.len]; exact Nat.le_refl _), F.len, Nat.sub_self] at h2
      cases h1
      cases h2
      exact ⟨i, hi, hB⟩
    · rw [if_neg e] at h1
      have lt : k < j := by rw [← F.size]; exact (Array.getElem?_eq_some_iff.mp h1).1
      rw [List.getElem?_append_left (by rw [F.len]; exact lt)] at h2
      exact F.each k u ns h1 h2
  · rw [List.flatten_append, List.map_append, List.flatten_singleton]
    refine List.nodup_append.mpr ⟨F.nd, nd, fun b hb c hc z => ?_⟩
    obtain ⟨p, hp, e1⟩ := List.mem_map.mp hb
    obtain ⟨r, hr, e2⟩ := List.mem_map.mp hc
    have y1 := (F.there p hp).2.2
    have y2 := (fr r hr).2.2.1
    rw [e1, z, ← e2, y2] at y1
    cases y1
  · rw [List.flatten_append, List.flatten_singleton] at hp
    rcases List.mem_append.mp hp with z | z
    · obtain ⟨z1, z2, z3⟩ := F.there p z
      exact ⟨z1, z2, old _ _ z1 z3⟩
    · obtain ⟨z1, z2, _, z3⟩ := fr p z
      exact ⟨z1, z2, z3⟩
end
/-! ### tuple(..) of such an expression -/
abbrev listO (acc : Array Value) (c : Nat) : Obj := { cls := .type "list", dict := none, data := .seq acc c, slots := #[] }
section
variable {P : Program} {w : World} {D : Around} {a C S : Addr} {g : Nat} {fp wr : List Addr} {pz : Nat → Bool} {n : Nat} {B : Bring} {h0 : Heap} {R : Result → Shared → Prop}
theorem bring_extend (T : Apart D.in1.in1 a C fp wr) (few : (passing pz n 0).length ≤ sizeLine) (Sa : S ≠ a) (SC : S ≠ C) (Sf : S ∉ fp) (res : Value) (k : Nat) : ∀ (j : Nat) (s : Shared) (acc : Array Value) (c : Nat) (nss : List (List (Addr × Obj))),
    (passing pz n 0).length - j = k → j ≤ (passing pz n 0).length → Ready P w D.in1.in1 a g C fp wr pz n B j s → s.heap.get? S = some (listO acc c) → Sofar pz n B (S :: C :: wr) h0 j acc nss s → (∀ b o, b ∉ S :: C :: wr → h0.get? b = some o → s.heap.get? b = some o) →
    (∀ s' acc' c' nss', Moved (S :: C :: wr) (GenOnlyQ g) s s' → s'.heap.get? S = some (listO acc' c') → Sofar pz n B (S :: C :: wr) h0 (passing pz n 0).length acc' nss' s' → R (.ok (.ret res)) s') →
      codeAny (model P w) D (.builtin "list.extend.loop" ⟨[.ref S, .ref a, res], []⟩) R s := by
  have Sw : S ∉ C :: wr := fun z => (List.mem_cons.mp z).elim SC fun y => Sf (T.sub _ y)
  have wider : ∀ b ∈ C :: wr, b ∈ S :: C :: wr := fun b hb => List.mem_cons_of_mem _ hb
  have gt : ∀ x y z, GenOnlyQ g x y → GenOnlyQ g y z → GenOnlyQ g x z := fun _ _ _ x y => x.trans y
  induction k with
  | zero =>
    intro j s acc c nss e le rd hS F old q
    have ej : j = (passing pz n 0).length := by omega
    refine codeAny_builtin PySem.F.entry_extend_loop ?_
    rw [Around.under_plainId PySem.F.plain_extend_loop _]
    refine (?_ : wpAny _ D.in1 (pyNext (.ref a) >>= _) _ _ s)
    refine wpAny_bind (wpAny_of_in1 (rd.done T ej fun s' mv => wpAny_pure (q s' acc c nss (mv.mono wider) (mv.heap S _ Sw hS) ?_)))
    rw [← ej]
    exact ⟨F.size, F.len, F.each, F.nd, fun p hp => let ⟨z1, z2, z3⟩ := F.there p hp; ⟨z1, z2, mv.heap _ _ (fun y => z1 (wider _ y)) z3⟩⟩
  | succ k ih =>
    intro j s acc c nss e le rd hS F old q
    refine codeAny_builtin PySem.F.entry_extend_loop ?_
    rw [Around.under_plainId PySem.F.plain_extend_loop _]
    refine (?_ : wpAny _ D.in1 (pyNext (.ref a) >>= _) _ _ s)
    refine wpAny_bind (wpAny_of_in1 (rd.next T (by omega) fun v s' i news hi hB nd hn rd' mv => ?_))
    have hS' := mv.heap S _ Sw hS
    refine (?_ : wpAny _ D.in1 (updateSeq S (·.push v) >>= _) _ _ s')
    have other : ∀ b o, b ≠ S → s'.heap.get? b = some o → (s'.heap.update S (Obj.mapSeq (·.push v))).get? b = some o := fun b o hb z => (Heap.get?_update_other _ _ (Ne.symm hb)).trans z
    have far : ∀ p ∈ news, p.1 ≠ S := fun p hp z => by
      have y := (hn p hp).2.2.1
      rw [z, hS] at y
      cases y
    have out : ∀ p ∈ news, p.1 ∉ S :: C :: wr := fun p hp z => by
      rcases List.mem_cons.mp z with y | y
      · exact far p hp y
      · rcases List.mem_cons.mp y with y | y
        · exact (hn p hp).1 y
        · exact (hn p hp).2.1 y
    have up : ∀ b o, b ∉ S :: C :: wr → s.heap.get? b = some o → (s'.heap.update S (Obj.mapSeq (·.push v))).get? b = some o := fun b o hb z => other b o (fun y => hb (y ▸ List.mem_cons_self ..)) (mv.heap b o (fun y => hb (List.mem_cons_of_mem _ y)) z)
    have F' : Sofar pz n B (S :: C :: wr) h0 (j + 1) (acc.push v) (nss ++ [news]) { s' with heap := s'.heap.update S (Obj.mapSeq (·.push v)) } := F.more hi hB nd up fun p hp => by
      refine ⟨out p hp, ?_, (hn p hp).2.2.1, other _ _ (far p hp) (hn p hp).2.2.2⟩
      cases z : h0.get? p.1 with
      | none => rfl
      | some o =>
        have y := old _ _ (out p hp) z
        rw [(hn p hp).2.2.1] at y
        cases y
    have rd2 : Ready P w D.in1.in1 a g C fp wr pz n B (j + 1) { s' with heap := s'.heap.update S (Obj.mapSeq (·.push v)) } := rd'.keep (t := s'.toks) T.cs fun b hb o z => other b o (fun y => by
      rcases List.mem_cons.mp hb with x | x
      · exact Sa (y ▸ x)
      · rcases List.mem_cons.mp x with x | x
        · exact SC (y ▸ x)
        · exact Sf (y ▸ x)) z
    refine wpAny_bind (wpAny_updateSeq hS' rfl (wpAny_pure ⟨plainId_quiet PySem.F.plain_extend_loop _, ih (j + 1) _ (acc.push v) _ (nss ++ [news]) (by omega) (by omega) rd2 (Heap.get?_update_self _ hS' rfl) F' (fun b o hb z => up b o hb (old b o hb z)) fun s2 acc2 c2 nss2 mv2 hS2 F2 => ?_⟩) (by rw [F.size]; omega) (by show (acc.push v).size ≤ sizeLine + 1; rw [Array.size_push, F.size]; omega))
    exact q s2 acc2 c2 nss2 (Moved.trans gt ((mv.mono wider).then_heap (by first | exact Nat.le_refl _ | exact Nat.le_succ _ | omega) fun b o hb z => other b o (fun y => hb (y ▸ List.mem_cons_self ..)) z) mv2) hS2 F2
end
section
variable {P : Program} {w : World} {A : Around} {E : Value → Shared → Prop} {s : Shared} {a C : Addr} {g : Nat} {fp wr : List Addr} {pz : Nat → Bool} {n : Nat} {B : Bring}
theorem bring_collect {Q : List Value → Shared → Prop} (T : Apart A.in1.in1 a C fp wr) (rd : Ready P w A.in1.in1 a g C fp wr pz n B 0 s) (few : (passing pz n 0).length ≤ sizeLine) (al : a < s.heap.objs.size) (Cl : C < s.heap.objs.size) (fl : ∀ b ∈ fp, b < s.heap.objs.size)
    (q : ∀ s' acc nss, Moved (C :: wr) (GenOnlyQ g) s s' → Sofar pz n B (C :: wr) s.heap (passing pz n 0).length acc nss s' → Q acc.toList s') : wpAny (model P w) A (collect (.ref a)) Q E s := by
  have gt : ∀ x y z, GenOnlyQ g x y → GenOnlyQ g y z → GenOnlyQ g x z := fun _ _ _ x y => x.trans y
  have isG : ∀ z : Shared, z.heap.IsGen a g → z.TypeIs (.ref a) "generator" := fun z h => h.typeIs
  have Sf : s.heap.objs.size ∉ fp := fun z => Nat.lt_irrefl _ (fl _ z)
  have Sa : s.heap.objs.size ≠ a := fun z => Nat.lt_irrefl _ (z ▸ al)
  have SC : s.heap.objs.size ≠ C := fun z => Nat.lt_irrefl _ (z ▸ Cl)
  have gen0 := rd.1
  have rd1 : Ready P w A.in1.in1 a g C fp wr pz n B 0 { s with heap := s.heap.push { cls := .type "list", data := .seq ([] : List Value).toArray } } := rd.keep (t := s.toks) T.cs fun b _ o z => Heap.get?_push_of_some _ z
  unfold collect
  refine wpAny_bind (wpAny_runValue (codeAny_builtin PySem.F.entry_proto_collect ?_))
  rw [Around.under_plainId PySem.F.plain_proto_collect _]
  refine (?_ : wpAny _ A.in1 (newList [] >>= fun l => again (.builtin "list.__iadd__" ⟨[l, .ref a], []⟩)) _ _ s)
  refine wpAny_bind (wpAny_newObj_type (wpAny_pure ⟨plainId_quiet PySem.F.plain_list_iadd _, codeAny_builtin PySem.F.entry_list_iadd ?_⟩))
  rw [Around.under_plainId PySem.F.plain_list_iadd _]
  refine (?_ : wpAny _ A.in1 (Builtin.List.listExtendWith (.ref s.heap.objs.size) (.ref a) (.ref s.heap.objs.size)) _ _ _)
  unfold Builtin.List.listExtendWith
  refine wpAny_bind (wpAny_typeOf (isG _ rd1.1) ?_)
  simp only [show Builtin.List.listSameRef (.ref s.heap.objs.size) (.ref a) = false by simp [Builtin.List.listSameRef, Sa], show (Value.type "generator" == Value.type "list") = false by decide, show (Value.type "generator" == Value.type "tuple") = false by decide, Bool.or_false, Bool.false_eq_true, if_false]
  refine wpAny_bind (wpAny_pyIter_gen rd1.1 (wpAny_bind (wpAny_holding ?_)))
  unfold Builtin.List.listLengthHint
  refine wpAny_bind (wpAny_specialOf (isG _ rd1.1) PySem.F.gen_no_len ?_)
  refine (?_ : wpAny _ A.in1 (specialOf (Value.ref a) (Str.ofString "__length_hint__") >>= _) _ _ _)
  refine wpAny_bind (wpAny_specialOf (isG _ rd1.1) PySem.F.gen_no_hint (wpAny_pure ?_))
  refine (?_ : wpAny _ A.in1 (rule "list.extend.makes-room" >>= fun _ => Builtin.List.listTouch (.ref s.heap.objs.size) >>= fun _ => again (.builtin "list.extend.loop" ⟨[.ref s.heap.objs.size, .ref a, .ref s.heap.objs.size], []⟩)) _ _ _)
  have L1 : (s.heap.push { cls := .type "list", data := .seq ([] : List Value).toArray }).get? s.heap.objs.size = some { cls := .type "list", data := .seq ([] : List Value).toArray } := Heap.get?_push_size _ rfl
  refine wpAny_bind (wpAny_rule (wpAny_bind ?_))
  refine (?_ : wpAny _ A.in1 (updateSeq s.heap.objs.size (·.push .none) >>= fun _ => updateSeq s.heap.objs.size (·.pop)) _ _ _)
  refine wpAny_bind (wpAny_updateSeq L1 rfl ?_)
  have L2' := Heap.get?_update_self (Obj.mapSeq (·.push Value.none)) L1 rfl
  refine wpAny_updateSeq L2' rfl ?_
  have L3 := Heap.get?_update_self (Obj.mapSeq (·.pop)) L2' rfl
  have oth : ∀ b o, b ≠ s.heap.objs.size → (s.heap.push { cls := .type "list", data := .seq ([] : List Value).toArray }).get? b = some o →
      (((s.heap.push { cls := .type "list", data := .seq ([] : List Value).toArray }).update s.heap.objs.size (Obj.mapSeq (·.push Value.none))).update s.heap.objs.size (Obj.mapSeq (·.pop))).get? b = some o :=
    fun b o hb z => (Heap.get?_update_other _ _ (Ne.symm hb)).trans ((Heap.get?_update_other _ _ (Ne.symm hb)).trans z)
  have old0 : ∀ b o, s.heap.get? b = some o → (((s.heap.push { cls := .type "list", data := .seq ([] : List Value).toArray }).update s.heap.objs.size (Obj.mapSeq (·.push Value.none))).update s.heap.objs.size (Obj.mapSeq (·.pop))).get? b = some o :=
    fun b o z => oth b o (fun y => Nat.lt_irrefl _ (y ▸ Heap.lt_size z)) (Heap.get?_push_of_some _ z)
  refine wpAny_pure ⟨plainId_quiet PySem.F.plain_extend_loop _, bring_extend T few Sa SC Sf _ _ 0 _ _ _ [] rfl (Nat.zero_le _)
    (rd1.keep (t := s.toks) T.cs fun b hb o z => oth b o (fun y => ?_) z) L3 ⟨rfl, rfl, fun k v ns h _ => by simp at h, List.nodup_nil, fun p hp => (List.not_mem_nil hp).elim⟩ (fun b o _ z => old0 b o z) fun s' acc c nss mv hS F => ?_⟩
  · rcases List.mem_cons.mp hb with x | x
    · exact Sa (y.symm.trans x)
    · rcases List.mem_cons.mp x with x | x
      · exact SC (y.symm.trans x)
      · exact Sf (y ▸ x)
  · refine (?_ : wpAny _ A (load s.heap.objs.size >>= _) _ _ s')
    refine wpAny_bind (wpAny_load hS (wpAny_pure (q s' acc nss ?_ ⟨F.size, F.len, F.each, F.nd, fun p hp => let ⟨z1, z2, z3⟩ := F.there p hp; ⟨fun y => z1 (List.mem_cons_of_mem _ y), z2, z3⟩⟩)))
    exact Moved.drop_new (o := { cls := .type "list", data := .seq ([] : List Value).toArray }) (tk := s.toks) (Moved.trans gt ((Moved.refl fun _ => .inl rfl).then_heap (by first | exact Nat.le_refl _ | exact Nat.le_succ _ | omega) fun b o hb z => oth b o (fun y => hb (y ▸ List.mem_cons_self)) z) mv) (Nat.le_refl _)
theorem bring_new {Q : Value → Shared → Prop} (T : Apart A.in1.in1.in1 a C fp wr) (rd : Ready P w A.in1.in1.in1 a g C fp wr pz n B 0 s) (few : (passing pz n 0).length ≤ sizeLine) (al : a < s.heap.objs.size) (Cl : C < s.heap.objs.size) (fl : ∀ b ∈ fp, b < s.heap.objs.size)
    (q : ∀ s' acc nss, Moved (C :: wr) (GenOnlyQ g) s s' → Sofar pz n B (C :: wr) s.heap (passing pz n 0).length acc nss s' → Q (.ref s'.heap.objs.size) { s' with heap := s'.heap.push { cls := .type "tuple", data := .seq acc } }) :
    codeAny (model P w) A (.call (.builtin "tuple.__new__") ⟨[.type "tuple", .ref a], []⟩) (wants Q E) s := by
  refine codeAny_of_tree ?_
  refine (?_ : wpAny _ A.in1 (do checkBuiltinCall "tuple.__new__" ⟨[.type "tuple", .ref a], []⟩; again (.builtin "tuple.__new__" ⟨[.type "tuple", .ref a], []⟩)) _ _ s)
  refine wpAny_bind (wpAny_of_eq (PySem.F.newCall_tuple_1 _) (wpAny_pure ⟨plainId_quiet PySem.F.plain_tuple_new _, codeAny_builtin PySem.F.entry_tuple_new ?_⟩))
  rw [Around.under_plainId PySem.F.plain_tuple_new _]
  have ⟨k1, k2, k3, k4⟩ := And.intro sub_tuple_self (And.intro init_tuple_lookup (And.intro madeHere_tuple rd.1.typeIs))
  wp_walk using wpAny_typeOf k4, bring_collect T rd few al Cl fl
  intro s' acc nss mv F
  refine (?_ : wpAny _ A.in1 (Builtin.Tuple.tupleExact acc.toList.toArray >>= fun v => ret v) _ _ _)
  unfold Builtin.Tuple.tupleExact
  have sz : acc.toList.toArray.size ≤ sizeLine := by simp only [Array.toArray_toList]; rw [F.size]; exact few
  refine wpAny_bind (wpAny_newObj_type (wpAny_pure ?_) sz)
  rw [show acc.toList.toArray = acc by simp]
  exact q s' acc nss mv F
theorem bring_tuple {Q : Value → Shared → Prop} (T : Apart A.in1.in1.in1.in1 a C fp wr) (rd : Ready P w A.in1.in1.in1.in1 a g C fp wr pz n B 0 s) (few : (passing pz n 0).length ≤ sizeLine) (al : a < s.heap.objs.size) (Cl : C < s.heap.objs.size) (fl : ∀ b ∈ fp, b < s.heap.objs.size)
    (q : ∀ s' acc nss, Moved (C :: wr) (GenOnlyQ g) s s' → Sofar pz n B (C :: wr) s.heap (passing pz n 0).length acc nss s' → Q (.ref s'.heap.objs.size) { s' with heap := s'.heap.push { cls := .type "tuple", data := .seq acc } }) :
    wpAny (model P w) A (call (.type "tuple") [.ref a]) Q E s := by
  refine callType_codes (Q₁ := fun obj s1 => s1.TypeIs obj "tuple" ∧ Q obj s1) PySem.F.called_tuple (PySem.F.typeCall_tuple_1 _) PySem.F.entry_object_init (bring_new T rd few al Cl fl fun s' acc nss mv F => ⟨⟨_, Heap.get?_push_size _ rfl, rfl⟩, q s' acc nss mv F⟩) fun obj s1 z => ⟨z.1, PySem.F.args_object_init_2 obj _, ?_⟩
  exact object_init_meets PySem.F.called_tuple.init.lookup PySem.F.called_tuple.made (by decide) P w A.in1 _ s1 ⟨z.1, rfl, z.2⟩
end
/-! ### such an expression over a tuple or a range, in a def's body: tuple(.. for x in ..) told as data -/
section
variable {P : Program} {w : World} {A : Around} {elt iter : Expr} {x : Str} {px pos : Pos} {ifs : List Expr} {scope : Scope} {I a : Addr} {g : Nat} {fp wr : List Addr} {n : Nat} {It : Nat → Value → Prop} {St : Nat → Heap → Prop} {env : Env} {pz : Nat → Bool} {B : Bring}
theorem Ready.fresh {s : Shared} {m : Str → Option Value} (calm : A.handled = none) (W : ∀ A' : Around, A'.handled = none → Walks P w A' I fp wr n It St) (live : ∀ i h, St i h → ∀ b ∈ wr, ∃ o, h.get? b = some o) (hx : env.kindOf x = some .local)
    (hk : (env.scope.kind == .class || (env.scope.kind == .module && env.locals != env.globals)) = false) (co : env.scope.isCoroutine = false) (out : env.locals ∉ fp) (M : Makes P w env x ifs elt fp wr It pz B s.heap) (isg : s.heap.IsGen a g)
    (hg : s.gens[g]? = some (.fresh (.compStart (.GeneratorExp elt [⟨.Name x px, iter, ifs, 0⟩] scope pos) 0 (.ref I) .none env))) (st : St 0 s.heap) (ns : s.heap.Ns env.locals m) (lim : s.heap.NoLimit) : Ready P w A a g env.locals fp wr pz n B 0 s := by
  refine ⟨isg, lim, _, hg, fun z hz => ⟨rfl, ?_⟩⟩
  have st' : St 0 z.heap := (W A calm).frame _ _ _ st fun b hb o e => hz b (List.mem_cons_of_mem _ hb) o e
  have ns' := ns.at' fun o e => hz _ (List.mem_cons_self ..) o e
  have calm2 : (A.in1.over (.compStart (.GeneratorExp elt [⟨.Name x px, iter, ifs, 0⟩] scope pos) 0 (.ref I) .none env) []).handled = none := calm
  have lp := bring_loop (iter := iter) (px := px) (scope := scope) (pos := pos) (A := A.in1) calm W live hx hk co out M n 0 z z m (Nat.sub_zero _) (Nat.zero_le _) st' ns' (GenSince.refl _ _ _) fun b hb _ o e => hz b (List.mem_cons_of_mem _ hb) o e
  refine (?_ : Seg _ A.in1 _ _ _ z _ ((compStart (.GeneratorExp elt [⟨.Name x px, iter, ifs, 0⟩] scope pos) 0 (.ref I) .none env).onRaise (leaving env)) [] z)
  unfold compStart
  rw [Sem.onRaise_eq_wrap]
  refine (?_ : Seg _ A.in1 _ _ _ z _ ((ask >>= _).wrap _ _ _ _) [] z)
  refine seg_bind_wrap (wpAny_askSetting ?_)
  split
  · exact seg_again rfl lp
  · first
      | exact seg_bind_wrap (wpAny_rule (seg_bind_wrap (wpAny_standAt (seg_bind_wrap ((W _ calm2).self 0 z _ _ st' (seg_again rfl lp))))))
      | (refine seg_bind_wrap (wpAny_rule ?_); refine (?_ : Seg _ A.in1 _ _ _ z _ ((standAt iter.pos >>= _).wrap _ _ _ _) [] z); exact seg_bind_wrap (wpAny_standAt (seg_bind_wrap ((W _ calm2).self 0 z _ _ st' (seg_again rfl lp)))))
end
/-- the heap with these tuples -/
def tupsAt : List (Addr × List V) → Hp → Hp
  | [], H => H
  | p :: L, H => upd (tupsAt L H) p.1 (.tup p.2)
theorem tupsAt_out {b : Addr} {H : Hp} : ∀ {L : List (Addr × List V)}, b ∉ L.map Prod.fst → tupsAt L H b = H b
  | [], _ => rfl
  | p :: L, h => by
    rw [List.map_cons, List.mem_cons, not_or] at h
    exact (upd_ne h.1).trans (tupsAt_out h.2)
theorem tupsAt_in {H : Hp} : ∀ {L : List (Addr × List V)}, (L.map Prod.fst).Nodup → ∀ p ∈ L, tupsAt L H p.1 = some (.tup p.2)
  | [], _, p, h => (List.not_mem_nil h).elim
  | r :: L, nd, p, h => by
    rw [List.map_cons, List.nodup_cons] at nd
    rcases List.mem_cons.mp h with e | e
    · rw [e]; exact upd_same
    · have ne : p.1 ≠ r.1 := fun z => nd.1 (z ▸ List.mem_map_of_mem e)
      exact (upd_ne ne).trans (tupsAt_in nd.2 p e)
theorem tupsAt_cases {b : Addr} {H : Hp} : ∀ {L : List (Addr × List V)}, b ∈ L.map Prod.fst → ∃ xs, (b, xs) ∈ L ∧ tupsAt L H b = some (.tup xs)
  | [], h => (List.not_mem_nil h).elim
  | p :: L, h => by
    by_cases e : b = p.1
    · exact ⟨p.2, by rw [e]; exact List.mem_cons_self, by rw [e]; exact upd_same⟩
    · obtain ⟨xs, h1, h2⟩ := tupsAt_cases (H := H) ((List.mem_cons.mp h).resolve_left e)
      exact ⟨xs, List.mem_cons_of_mem _ h1, (upd_ne e).trans h2⟩
section
variable {X : Cx} {pins : List (Addr × Obj)} {σ : L2.St} {H G : Hp} {s s' : Shared} {L : List (Addr × List V)}
theorem Inv.more (I : Inv X pins σ H s) (J : Inv X pins σ G s') (new : ∀ b ∈ L.map Prod.fst, s.heap.get? b = none ∧ G b = none) (ok : ∀ p ∈ L, p.2.length ≤ sizeLine ∧ ∃ its : List Value, Vals p.2 its ∧ IsTup s'.heap p.1 its.toArray) : Inv X pins σ (tupsAt L G) s' := by
  have old : ∀ {b o}, s.heap.get? b = some o → b ∉ L.map Prod.fst := fun e z => by rw [(new _ z).1] at e; cases e
  have held : ∀ {b o}, G b = some o → b ∉ L.map Prod.fst := fun e z => by rw [(new _ z).2] at e; cases e
  refine { J with base := ⟨J.base.keep, J.base.slot, fun b o e n hx => ?_, J.base.there, fun b xs e => ?_, fun b o u e => ?_, fun b ps e => ?_⟩, free := ?_, freeC := fun y c e => ?_, pin := fun p hp => ?_, hok := fun b o e => ?_ }
  · obtain ⟨o', e'⟩ := I.base.there b o e hx
    rw [tupsAt_out (old e')]
    exact J.base.free b o e n hx
  · have q := J.base.tups b xs e
    rw [tupsAt_out (held q)]; exact q
  · have q := J.base.frzs b o u e
    rw [tupsAt_out (held q)]; exact q
  · obtain ⟨mo, q⟩ := J.base.tbls b ps e
    exact ⟨mo, by rw [tupsAt_out (held q)]; exact q⟩
  · obtain ⟨m, ⟨ob, es, ep, ho, _⟩, _⟩ := I.loc
    rw [tupsAt_out (old ho)]
    exact J.free
  · obtain ⟨v, ob, ho, _⟩ := I.cell y c e
    rw [tupsAt_out (old ho)]
    exact J.freeC y c e
  · obtain ⟨q1, q2, q3⟩ := J.pin p hp
    exact ⟨q1, by rw [tupsAt_out (old (I.pin p hp).1)]; exact q2, q3⟩
  · by_cases hb : b ∈ L.map Prod.fst
    · obtain ⟨xs, h1, h2⟩ := tupsAt_cases (H := G) hb
      rw [h2] at e
      cases e
      exact ok _ h1
    · rw [tupsAt_out hb] at e
      exact (J.hok b o e).stay (fun _ _ _ q => q) (fun c q => by rw [tupsAt_out (held q)]; exact q) fun c xs q => by rw [tupsAt_out (held q)]; exact q
end
theorem dpAll_of_get {K : PySem.W.Frag} {H : Hp} : ∀ {vs : List V} {ds : List PyData}, vs.length = ds.length → (∀ (k : Nat) v d, vs[k]? = some v → ds[k]? = some d → Dp K H v d) → DpAll K H vs ds
  | [], [], _, _ => .nil
  | [], _ :: _, h, _ => by simp at h
  | _ :: _, [], h, _ => by simp at h
  | v :: vs, d :: ds, h, q => .cons (q 0 v d rfl rfl) (dpAll_of_get (by simpa using h) fun k u e h1 h2 => q (k + 1) u e h1 h2)
/-- one new tuple, told as an object of the model and as what is tracked -/
def TupNew (p : Addr × List V) (r : Addr × Obj) : Prop := r.1 = p.1 ∧ p.2.length ≤ sizeLine ∧ ∃ us : List Value, Vals p.2 us ∧ r.2.cls = .type "tuple" ∧ ∃ n, r.2.data = .seq us.toArray n
/-- a place's item is a new tuple that is such data -/
def BringD (K : PySem.W.Frag) (f : Nat → PyData) (H1 : Hp) : Bring := fun i y news => ∃ (x : V) (L : List (Addr × List V)), RelV x y ∧ Paired TupNew L news ∧ ∀ H2 : Hp, Grow H1 H2 → (∀ p ∈ L, H2 p.1 = some (.tup p.2)) → Dp K H2 x (f i)
theorem paired_fst {L : List (Addr × List V)} {news : List (Addr × Obj)} (h : Paired TupNew L news) : L.map Prod.fst = news.map Prod.fst := by
  induction h with
  | nil => rfl
  | cons a _ ih => rw [List.map_cons, List.map_cons, ih, a.1]
theorem paired_mem {L : List (Addr × List V)} {news : List (Addr × Obj)} (h : Paired TupNew L news) : ∀ p ∈ L, ∃ r ∈ news, TupNew p r := by
  induction h with
  | nil => exact fun p z => (List.not_mem_nil z).elim
  | cons a _ ih => exact fun p z => (List.mem_cons.mp z).elim (fun e => ⟨_, List.mem_cons_self, e ▸ a⟩) fun e => let ⟨r, h1, h2⟩ := ih p e; ⟨r, List.mem_cons_of_mem _ h1, h2⟩
theorem paired_app {L L' : List (Addr × List V)} {m m' : List (Addr × Obj)} (h : Paired TupNew L m) (h' : Paired TupNew L' m') : Paired TupNew (L ++ L') (m ++ m') := by
  induction h with
  | nil => exact h'
  | cons a _ ih => exact .cons a ih
/-- all that was brought, as what is to be tracked -/
theorem bring_all {K : PySem.W.Frag} {f : Nat → PyData} {H1 : Hp} : ∀ (acc : List Value) (nss : List (List (Addr × Obj))) (ix : List Nat), acc.length = ix.length → nss.length = ix.length → (∀ (k : Nat) v news, acc[k]? = some v → nss[k]? = some news → ∃ i, ix[k]? = some i ∧ BringD K f H1 i v news) →
    ∃ (vs : List V) (L : List (Addr × List V)), Vals vs acc ∧ Paired TupNew L nss.flatten ∧ ∀ H2 : Hp, Grow H1 H2 → (∀ p ∈ L, H2 p.1 = some (.tup p.2)) → DpAll K H2 vs (ix.map f)
  | [], [], [], _, _, _ => ⟨[], [], .nil, .nil, fun _ _ _ => .nil⟩
  | v :: acc, ns :: nss, i :: ix, h1, h2, h => by
    obtain ⟨vs, L, r1, r2, r3⟩ := bring_all acc nss ix (by simpa using h1) (by simpa using h2) fun k u m e1 e2 => h (k + 1) u m e1 e2
    obtain ⟨i', e, q, L0, rq, r4, r5⟩ := h 0 v ns rfl rfl
    cases e
    refine ⟨q :: vs, L0 ++ L, .cons rq r1, ?_, fun H2 g hp => .cons (r5 H2 g fun p z => hp p (List.mem_append_left _ z)) (r3 H2 g fun p z => hp p (List.mem_append_right _ z))⟩
    rw [List.flatten_cons]
    exact paired_app r4 r2
  | [], _ :: _, [], _, h2, _ => by simp at h2
  | _ :: _, _, [], h1, _, _ => by simp at h1
  | [], _, _ :: _, h1, _, _ => by simp at h1
  | _ :: _, [], _ :: _, _, h2, _ => by simp at h2
/-! ### the rule -/
def OverOk (X : Cx) (u : Value) (s1 : Shared) (n : Nat) (It : Nat → Value → Prop) (T : Addr) : Prop :=
  ∃ (ob : Obj) (fp0 : List Addr) (St : Nat → Heap → Prop), (∀ (Q : Value → Shared → Prop) (E : Value → Shared → Prop), Q (.ref s1.heap.objs.size) { s1 with heap := s1.heap.push ob } → wpAny (model X.prog X.w) X.A (pyIter u) Q E s1) ∧
    (∀ A' : Around, A'.handled = none → Walks X.prog X.w A' s1.heap.objs.size fp0 [s1.heap.objs.size] n It St) ∧ (∀ b ∈ fp0, b ≤ s1.heap.objs.size) ∧
    (∀ h' : Heap, (∀ b o, b ≠ T → (s1.heap.push ob).get? b = some o → h'.get? b = some o) → St 0 h') ∧ ∀ i h, St i h → ∃ o, h.get? s1.heap.objs.size = some o
/-- the tests and the element, wherever the expression's own frame stands -/
def MakeOk (X : Cx) (scope : Scope) (x : Str) (ifs : List Expr) (elt : Expr) (It : Nat → Value → Prop) (n : Nat) (pz : Nat → Bool) (B : Bring) (T : Addr) (s1 : Shared) : Prop :=
  ∀ (env : Env) (A' : Around) (E' : Value → Shared → Prop) (i : Nat) (v : Value) (s2 : Shared) (m2 : Str → Option Value), It i v → env.scope = scope → env.cells = cloFrom X.env.cells scope.names [] → A'.handled = none →
    s2.heap.Ns env.locals m2 → m2 x = some v → (∀ b o, b ≠ T → s1.heap.get? b = some o → s2.heap.get? b = some o) → env.globals = mainGlobals → env.builtins = builtinsNs →
      wpAny (model X.prog X.w) A' (forIn ifs true fun c r => if r = true then do let ok ← isTrue c env (eval c env); pure (ForInStep.yield ok) else pure (ForInStep.yield r)) (fun ok s3 => ok = pz i ∧ PySem.Keeps s2 s3) E' s2 ∧
      (pz i = true → wpAny (model X.prog X.w) A' (eval elt env) (fun y s3 => (∃ news, B i y news ∧ (news.map Prod.fst).Nodup ∧ ∀ p ∈ news, s2.heap.get? p.1 = none ∧ s3.heap.get? p.1 = some p.2) ∧ PySem.Keeps s2 s3) E' s2)
def tTupO (X : Cx) (T : Addr) (scope : Scope) (x : Str) (ifs : List Expr) (elt : Expr) (te : TE) : TE := fun σ H Q => te σ H fun v H1 => ∃ (n : Nat) (It : Nat → Value → Prop) (pz : Nat → Bool) (f : Nat → PyData), n ≤ sizeLine ∧ GxR.TabG H1 T ∧
  (∀ pins s1 u, Inv X pins σ H1 s1 → RelV v u → OverOk X u s1 n It T ∧ MakeOk X scope x ifs elt It n pz (BringD X.K f H1) T s1) ∧
  ∀ (t : Addr) (vs : List V) (H2 : Hp), Grow H1 H2 → H1 t = none → H2 t = some (.tup vs) → DpAll X.K H2 vs (((List.range n).filter pz).map f) → Q (.ref t) H2
theorem tup_grow {P : Addr} {H1 : Hp} {q : Array Value} {L : List (Addr × List V)} (hP : ∃ ps, H1 P = some (.tbl ps) ∧ (TriplesOk ps.toList → TriplesOk q.toList)) (new : ∀ b ∈ L.map Prod.fst, H1 b = none) : Grow H1 (tupsAt L (upd H1 P (.tbl q))) := by
  obtain ⟨ps, hP, ht⟩ := hP
  have nP : P ∉ L.map Prod.fst := fun z => by rw [new P z] at hP; cases hP
  refine ⟨fun b o e => ?_, fun b r e => ?_⟩
  · obtain ⟨e1, e2⟩ := offT_some e
    have bP : b ≠ P := fun z => by rw [z, hP] at e1; cases e1; exact e2 _ rfl
    have nb : b ∉ L.map Prod.fst := fun z => by rw [new b z] at e1; cases e1
    exact offT_at (by rw [tupsAt_out nb, upd_ne bP]; exact e1) e2
  · by_cases bP : b = P
    · rw [bP, hP] at e
      cases e
      exact ⟨q, by rw [bP, tupsAt_out nP]; exact upd_same, ht⟩
    · have nb : b ∉ L.map Prod.fst := fun z => by rw [new b z] at e; cases e
      exact ⟨r, by rw [tupsAt_out nb, upd_ne bP]; exact e, id⟩
theorem objOk_there {P : Program} {w : World} {H : Hp} {h : Heap} {a : Addr} {o : HO} (x : ObjOk P w H h a o) : ∃ u, h.get? a = some u := by
  cases o with
  | lst xs => obtain ⟨_, _, _, _, e⟩ := x; exact ⟨_, e⟩
  | tup xs => obtain ⟨_, _, _, _, e, _⟩ := x; exact ⟨_, e⟩
  | dK kvs => obtain ⟨_, _, _, _, _, _, _, e, _⟩ := x; exact ⟨_, e⟩
  | dT kvs => obtain ⟨_, _, _, _, _, _, _, e, _⟩ := x; exact ⟨_, e⟩
  | set S n => obtain ⟨_, _, _, _, e, _⟩ := x; exact ⟨_, e⟩
  | ins C dx fs => obtain ⟨_, _, _, e, _⟩ := x; exact ⟨_, e⟩
  | own y => exact x
  | xd fs => obtain ⟨_, ⟨_, _, _, e, _⟩, _⟩ := x; exact ⟨_, e⟩
  | rng lo hi => obtain ⟨_, _, _, e⟩ := x; exact ⟨_, e⟩
  | frz ob u => exact ⟨_, x.1⟩
  | tbl ps => exact ⟨_, x⟩
  | met f y => exact ⟨_, x⟩
  | ext φ => exact x.2.1
section
variable {X : Cx}
theorem pe_tupO {c T : Addr} {elt iter : Expr} {ifs : List Expr} {x : Str} {px p pos gpos : Pos} {scope : Scope} {te : TE} {k : Nat}
    (hr : Room k X.A) (hg : Gl X "tuple") (hm : X.mg "tuple" = none) (TB : GxR.TabB X.base X.mg c T) (hcode : X.env.code = .ref c) (S : GxR.GenS X.env scope x) (hi : PE X iter te) (hs : ∀ v, genFold iter X.env v = pure v)
    (hc : X.calm = true) (he : starEach [.GeneratorExp elt [⟨.Name x px, iter, ifs, 0⟩] scope gpos] X.env = (false, eval (.GeneratorExp elt [⟨.Name x px, iter, ifs, 0⟩] scope gpos) X.env) :: starEach [] X.env := by rfl) :
    PE X (.Call (.Name "tuple" p) [.GeneratorExp elt [⟨.Name x px, iter, ifs, 0⟩] scope gpos] [] pos) (tTupO X T scope x ifs elt te) := by
  refine ⟨fun pins s σ H Q I h => ?_⟩
  refine wpAny_Call_Name_kw (ld_blt I hg hm (show bootBuiltins "tuple" = some (.type "tuple") by decide +kernel) (PyProof.Rows.callWith_type1 ?_ he (by rfl)))
  rw [he]
  refine (?_ : wpAny _ _ (spliced ((false, eval (.GeneratorExp elt [⟨.Name x px, iter, ifs, 0⟩] scope gpos) X.env) :: backTo pos (starEach [] X.env))) _ _ s)
  have calm := I.ok.hd hc
  refine Calls.spliced_cons (wpAny_GeneratorExp_make S.co (closure_ok S.free) S.cell S.dot S.kind (by have := hr.dp; omega) ?_ hs)
  refine thn (hi.run pins s σ H _ I h) fun xv s1 ⟨v, H1, I1, r1, n, It, pz, f, hz, ⟨ps, hP, ht⟩, hO, q⟩ => ?_
  obtain ⟨⟨ob, fp0, St, itr, W, fpl, st0, live⟩, MO⟩ := hO pins s1 xv I1 r1
  refine itr _ _ ?_
  have gP : s1.heap.get? T = some { cls := .none, data := .fields ps } := I1.hok T _ hP
  have Plt : T < s1.heap.objs.size := Heap.lt_size gP
  have gP2 : (s1.heap.push ob).get? T = some { cls := .none, data := .fields ps } := Heap.get?_push_of_some _ gP
  have cd : PySem.W.CodeHd (s1.heap.push ob) c T := TB.code.keeps fun b u e => Heap.get?_push_of_some _ (I1.bk b u e)
  have lim2 : (s1.heap.push ob).NoLimit := I1.nolimit.push ob
  have sz2 : (s1.heap.push ob).objs.size = s1.heap.objs.size + 1 := Heap.size_push ..
  have main : ∀ (code : Value) (h3 : Heap) (tk : Nat) (qs : Array Value), Heap.ExtBut T (s1.heap.push ob) h3 → (s1.heap.push ob).objs.size ≤ h3.objs.size → h3.get? T = some { cls := .none, data := .fields qs } → (∃ more, qs = ps ++ more) → TriplesOk qs.toList →
      wpAny (model X.prog X.w) X.A (builtinsFor X.env.globals X.env.builtins) (fun bi s4 =>
        ∀ h', h'.Ns s4.heap.objs.size (fun y => if y = ".0" then some (Value.ref s1.heap.objs.size) else none) → Heap.SameBut s4.heap.objs.size (s4.heap.push { cls := .type "frame", data := .dict #[] }) h' →
          wpAny (model X.prog X.w) X.A (spliced (backTo pos (starEach [] X.env))) (fun a_1 s' => wpAny (model X.prog X.w) X.A (call (.type "tuple") (.ref h'.objs.size :: a_1)) (EP X pins σ Q) X.xe s') X.xe
            { s4 with
              gens := s4.gens.push (.fresh (.compStart (.GeneratorExp elt [⟨.Name x px, iter, ifs, 0⟩] scope gpos) 0 (.ref s1.heap.objs.size) .none (genEnv scope (cloFrom X.env.cells scope.names []) s4.heap.objs.size code bi X.env))),
              toks := s4.toks + 1 + 1 + 1,
              heap := h'.push { cls := .type "generator", data := .fields #[.int s4.gens.size 0, .str "<genexpr>" (s4.toks + 1), .str (X.env.qual ++ "<genexpr>") (s4.toks + 1 + 1)] } }) X.xe { s1 with heap := h3, toks := tk } := by
    intro code h3 tk qs hx hsz gP3 hmore ht3
    obtain ⟨bm, bo, e1, e2, e3, e4, e5, e6, e7, e8⟩ := TB.bm
    have csP : cStatics ≠ T := fun e => by
      obtain ⟨_, hns, _⟩ := I1.nolimit
      obtain ⟨o', es, ep, ho, hd, _⟩ := hns
      rw [e, gP] at ho
      cases ho
      cases hd
    have cl : cStatics < s1.heap.objs.size := let ⟨_, hns, _⟩ := I1.nolimit; hns.lt
    have kp3 : ∀ b u, b ≠ T → s1.heap.get? b = some u → h3.get? b = some u := fun b u hb e => hx b u hb (Heap.get?_push_of_some _ e)
    refine wpAny_builtinsFor (m := X.mg) (by rw [I1.ok.glob]; exact ((I1.mod.glob.keeps I1.bk).push ob).extBut hx TB.gP) e1 e2 (kp3 _ _ e4 (I1.bk _ _ e5)) e6 e7 e8 ?_
    intro h' hn' hs'
    have hsz' : h'.objs.size = h3.objs.size + 1 := by rw [hs'.1, Heap.size_push]
    have keep' : ∀ b o, h3.get? b = some o → h'.get? b = some o := fun b o e => hs'.extBut b o (Nat.ne_of_lt (Heap.lt_size e)) (Heap.get?_push_of_some _ e)
    generalize hG : ({ cls := .type "generator", data := .fields #[.int s1.gens.size 0, .str "<genexpr>" (tk + 1), .str (X.env.qual ++ "<genexpr>") (tk + 1 + 1)] } : Obj) = go
    have keep5 : ∀ b o, h3.get? b = some o → (h'.push go).get? b = some o := fun b o e => Heap.get?_push_of_some _ (keep' b o e)
    have old5 : ∀ b o, b ≠ T → s1.heap.get? b = some o → (h'.push go).get? b = some o := fun b o hb e => keep5 b o (kp3 b o hb e)
    refine Calls.spliced_nil ?_
    have szS : s1.heap.objs.size < h3.objs.size := by omega
    have Ap : Apart X.A.in1.in1.in1.in1 h'.objs.size h3.objs.size (List.range h3.objs.size) [s1.heap.objs.size] :=
      ⟨calm, by rw [hsz']; exact Nat.succ_ne_self _, fun z => by have := List.mem_range.mp z; omega, fun b hb => by rw [List.mem_singleton.mp hb]; exact List.mem_range.mpr szS, (by have := hr.dp; show X.A.depth < recursionLimit; omega), List.mem_range.mpr (Nat.lt_trans cl szS), Nat.ne_of_lt (Nat.lt_trans cl szS), fun z => Nat.ne_of_lt cl (List.mem_singleton.mp z)⟩
    have Wf : ∀ A' : Around, A'.handled = none → Walks X.prog X.w A' s1.heap.objs.size (List.range h3.objs.size) [s1.heap.objs.size] n It St := fun A' hA => (W A' hA).mono_fp fun b hb => List.mem_range.mpr (Nat.lt_of_le_of_lt (fpl b hb) szS)
    have mk : Makes X.prog X.w (genEnv scope (cloFrom X.env.cells scope.names []) h3.objs.size code builtinsNs X.env) x ifs elt (List.range h3.objs.size) [s1.heap.objs.size] It pz (BringD X.K f H1) (h'.push go) := by
      have old : ∀ (s2 : Shared), (∀ b ∈ List.range h3.objs.size, b ∉ [s1.heap.objs.size] → ∀ o, (h'.push go).get? b = some o → s2.heap.get? b = some o) → ∀ b o, b ≠ T → s1.heap.get? b = some o → s2.heap.get? b = some o := fun s2 hk b o hb e => by
        have lt1 := Heap.lt_size e
        refine hk b (List.mem_range.mpr (Heap.lt_size (kp3 b o hb e))) (fun z => ?_) o (old5 b o hb e)
        rw [List.mem_singleton.mp z] at lt1
        exact Nat.lt_irrefl _ lt1
      refine ⟨⟨fun A' E' i v s2 m2 hA hv hns hm2 hk => (MO _ A' E' i v s2 m2 hv rfl rfl hA hns hm2 (old s2 hk) I1.ok.glob rfl).1, fun A' E' i v s2 m2 hA hv hp hns hm2 hk => ?_⟩, fun A' E' i v s2 m2 hA hv hp hns hm2 hk => (MO _ A' E' i v s2 m2 hv rfl rfl hA hns hm2 (old s2 hk) I1.ok.glob rfl).2 hp⟩
      exact wpAny_mono ((MO _ A' E' i v s2 m2 hv rfl rfl hA hns hm2 (old s2 hk) I1.ok.glob rfl).2 hp) (fun y s3 z => ⟨trivial, z.2⟩) fun _ _ z => z
    have cs5 : (h'.push go).NoLimit := (lim2.extBut hx csP).keeps keep5
    have rd : Ready X.prog X.w X.A.in1.in1.in1.in1 h'.objs.size s1.gens.size h3.objs.size (List.range h3.objs.size) [s1.heap.objs.size] pz n (BringD X.K f H1) 0 { s1 with gens := s1.gens.push (.fresh (.compStart (.GeneratorExp elt [⟨.Name x px, iter, ifs, 0⟩] scope gpos) 0 (.ref s1.heap.objs.size) .none (genEnv scope (cloFrom X.env.cells scope.names []) h3.objs.size code builtinsNs X.env))), toks := tk + 1 + 1 + 1, heap := h'.push go } := by
      refine Ready.fresh (A := X.A.in1.in1.in1.in1) (env := genEnv scope (cloFrom X.env.cells scope.names []) h3.objs.size code builtinsNs X.env) (m := fun y => if y = ".0" then some (.ref s1.heap.objs.size) else none) calm Wf (fun i h st b hb => by rw [List.mem_singleton.mp hb]; exact live i h st) S.loc (by show (scope.kind == .class || (scope.kind == .module && _)) = false; rw [S.kind]; rfl) S.co (fun z => Nat.lt_irrefl _ (List.mem_range.mp z)) mk (by subst hG; exact ⟨_, _, _, Heap.get?_push_size _ rfl, rfl, rfl, rfl⟩) (Array.getElem?_push_size ..) (st0 _ fun b o hb e => keep5 b o (hx b o hb e)) (hn'.push _) cs5
    have few : (passing pz n 0).length ≤ sizeLine := by
      unfold passing
      exact Nat.le_trans (List.length_filter_le _ _) (by rw [List.drop_zero, List.length_range]; exact hz)
    have sz5 : (h'.push go).objs.size = h3.objs.size + 2 := by rw [Heap.size_push, hsz']
    refine bring_tuple Ap rd few (by show h'.objs.size < (h'.push go).objs.size; omega) (by show h3.objs.size < (h'.push go).objs.size; omega) (fun b hb => Nat.lt_trans (List.mem_range.mp hb) (by show h3.objs.size < (h'.push go).objs.size; omega)) fun s' acc nss mv F => ?_
    obtain ⟨more, em⟩ := hmore
    have nw : ∀ b u, s1.heap.get? b = some u → b ∉ h3.objs.size :: [s1.heap.objs.size] := fun b u e hb => by
      have hl := Heap.lt_size e
      rcases List.mem_cons.mp hb with z | z
      · rw [z] at hl
        exact Nat.lt_asymm szS hl
      · rw [List.mem_singleton.mp z] at hl
        exact Nat.lt_irrefl _ hl
    have kept : ∀ b u, b ≠ T → s1.heap.get? b = some u → s'.heap.get? b = some u := fun b u hb e => mv.heap b u (nw b u e) (old5 b u hb e)
    have J := GxR.inv_tab (more := more) (h' := s'.heap) (g' := s'.gens) (d' := s'.drawn) (t' := s'.toks) I1 hP kept (by rw [← em]; exact mv.heap T _ (nw T _ gP) (keep5 T _ gP3)) (AllBare.movedS (I1.bare.push rfl) mv)
    rw [GxR.sh_eta s1 s' mv.os] at J
    have len0 : passing pz n 0 = (List.range n).filter pz := by unfold passing; rw [List.drop_zero]
    obtain ⟨vs, L, v1, v2, v3⟩ := bring_all (K := X.K) (f := f) (H1 := H1) acc.toList nss (passing pz n 0) (by rw [Array.length_toList, F.size]) F.len fun k v news h1 h2 => F.each k v news (by simpa using h1) h2
    have fst := paired_fst v2
    have none1 : ∀ b ∈ L.map Prod.fst, s1.heap.get? b = none := fun b hb => by
      rw [fst] at hb
      obtain ⟨p, hp, rfl⟩ := List.mem_map.mp hb
      cases e : s1.heap.get? p.1 with
      | none => rfl
      | some u =>
        have z := (F.there p hp).2.1
        by_cases hT : p.1 = T
        · rw [hT] at z
          exact absurd ((keep5 T _ gP3).symm.trans z) (by simp)
        · exact absurd ((old5 _ _ hT e).symm.trans z) (by simp)
    have free1 : ∀ b ∈ L.map Prod.fst, H1 b = none := fun b hb => by
      cases e : H1 b with
      | none => rfl
      | some o =>
        obtain ⟨u, hu⟩ := objOk_there (I1.hok b o e)
        exact absurd (hu.symm.trans (none1 b hb)) (by simp)
    have neT : ∀ b ∈ L.map Prod.fst, b ≠ T := fun b hb z => by
      have y := none1 b hb
      rw [z, gP] at y
      cases y
    have J2 := Inv.more I1 J (fun b hb => ⟨none1 b hb, by rw [upd_ne (neT b hb)]; exact free1 b hb⟩) fun p hp => by
      obtain ⟨r, hr', t1, t2, us, t3, t4, m, t5⟩ := paired_mem v2 p hp
      refine ⟨t2, us, t3, r.2, ?_, t4, m, t5⟩
      rw [← t1]
      exact (F.there r hr').2.2
    have gr : Grow H1 (tupsAt L (upd H1 T (.tbl (ps ++ more)))) := tup_grow ⟨ps, hP, fun _ => by rw [← em]; exact ht3⟩ free1
    have fresh2 := J2.hok.fresh (Nat.le_refl s'.heap.objs.size)
    have vl : vs.length = acc.size := by rw [v1.length, Array.length_toList]
    have g2 : Grow H1 (upd (tupsAt L (upd H1 T (.tbl (ps ++ more)))) s'.heap.objs.size (.tup vs)) := gr.trans (Grow.new fresh2)
    refine ⟨.ref _, _, J2.laid (t' := s'.toks) (o := .tup vs) (fun b o' z => Heap.get?_push_of_some _ z) (Nat.le_refl _) ⟨by rw [vl, F.size]; exact few, acc.toList, v1, _, Heap.get?_push_size _ rfl, rfl, _, rfl⟩, rfl, q _ vs _ g2 ?_ upd_same ?_⟩
    · cases e : H1 s'.heap.objs.size with
      | none => rfl
      | some o =>
        cases o with
        | tbl z =>
          obtain ⟨z', e', _⟩ := gr.t _ _ e
          exact absurd (e'.symm.trans fresh2) (by simp)
        | _ => exact absurd ((gr.at e).symm.trans fresh2) (by simp)
    · rw [← len0]
      refine v3 _ g2 fun p hp => ?_
      have hin : tupsAt L (upd H1 T (.tbl (ps ++ more))) p.1 = some (.tup p.2) := tupsAt_in (by rw [fst]; exact F.nd) p hp
      rw [upd_ne (ne_of_none hin fresh2)]
      exact hin
  refine ⟨lim2, ?_⟩
  cases hf : codeAmong gpos ps.toList with
  | none =>
    refine wpAny_genexprCodeX hcode (cd.code gP2 ht) (cd.tab gP2) hf fun c' h' tk hx hge hlt hco' _ htab' _ => ?_
    obtain ⟨_, _, _, _, _, _, _, _, _, _, _, _, _, _, _, _, _, _, _, htr, _⟩ := hco'
    exact main _ h' tk _ hx (Nat.le_trans hge (Nat.le_of_lt hlt)) htab'.2 ⟨_, rfl⟩ htr
  | some cv =>
    refine wpAny_genexprCode_hit hcode (cd.code gP2 ht) hf ?_
    exact main cv (s1.heap.push ob) s1.toks ps (Heap.ExtBut.refl _ _) (Nat.le_refl _) gP2 ⟨#[], by simp⟩ ht
end
/-! ### elements that make a pair -/
section
variable {P : Program} {w : World} {A : Around} {env : Env} {s : Shared} {a b : Expr} {pos : Pos} {k : Nat}
theorem gm_two {R1 R2 : Value → Prop} (ha : GV P w A env s a R1) (hb : GV P w A env s b R2) (st : starEach [a, b] env = (false, eval a env) :: (false, eval b env) :: starEach [] env := by rfl) (E : Value → Shared → Prop) :
    wpAny (model P w) A (eval (.Tuple [a, b] k pos) env) (fun y s3 => (∃ q u v, y = .ref q ∧ R1 u ∧ R2 v ∧ s.heap.get? q = none ∧ s3.heap.get? q = some { cls := .type "tuple", data := .seq [u, v].toArray }) ∧ PySem.Keeps s s3) E s := by
  refine wpAny_Tuple_spliced ?_
  rw [st]
  refine (?_ : wpAny _ _ (spliced ((false, eval a env) :: backTo pos ((false, eval b env) :: starEach [] env))) _ _ s)
  refine Calls.spliced_cons (wpAny_mono (ha E s (GxR.keeps_refl _)) (fun u s1 ⟨r1, k1⟩ => ?_) fun _ _ z => z)
  refine (?_ : wpAny _ _ (spliced ((false, eval b env) :: backTo pos (starEach [] env))) _ _ s1)
  refine Calls.spliced_cons (wpAny_mono (hb E s1 k1) (fun v s2 ⟨r2, k2⟩ => ?_) fun _ _ z => z)
  refine Calls.spliced_nil ⟨by show 2 ≤ sizeLine; decide, ⟨s2.heap.objs.size, u, v, rfl, r1, r2, ?_, Heap.get?_push_size _ rfl⟩, ?_⟩
  · cases e : s.heap.get? s2.heap.objs.size with
    | none => rfl
    | some o => exact absurd (Heap.lt_size (keepsH k2 _ _ e)) (Nat.lt_irrefl _)
  · obtain ⟨h, t, rfl, kk⟩ := k2
    exact ⟨_, t, rfl, fun c o e => Heap.get?_push_of_some _ (kk c o e)⟩
end
/-- over a tuple of numbers -/
theorem over_tup {X : Cx} {s1 : Shared} {a T : Addr} {its : List Value} {ps : Array Value} (calm : X.A.handled = none) (ht : IsTup s1.heap a its.toArray) (hT : s1.heap.get? T = some { cls := .none, data := .fields ps }) : OverOk X (.ref a) s1 its.length (fun i v => its[i]? = some v) T := by
  have al : a < s1.heap.objs.size := ht.lt
  have aT : a ≠ T := fun z => by
    obtain ⟨o, ho, _, n, hd⟩ := ht
    rw [z, hT] at ho
    cases ho
    cases hd
  have tT : s1.heap.objs.size ≠ T := fun z => Nat.lt_irrefl _ (z ▸ Heap.lt_size hT)
  have sz : its.toArray.size = its.length := List.size_toArray ..
  refine ⟨{ cls := .type "tuple_iterator", data := .fields #[.ref a, .int 0 0] }, [s1.heap.objs.size, a], fun i h => h.IsTupleIter s1.heap.objs.size a i ∧ h.IsTuple a its.toArray, fun Q E q => wpAny_pyIter_tuple (show s1.heap.IsTuple a its.toArray from ht) q, fun A' hA => ?_, fun b hb => ?_, fun h' k => ⟨?_, ?_⟩, fun i h st => ?_⟩
  · have W := Walks.tuple (prog := X.prog) (w := X.w) hA s1.heap.objs.size a (Nat.ne_of_lt al) its.toArray
    rw [sz] at W
    refine { W with item := fun i s Q E hi st hQ => W.item i s Q E hi st fun v h' tk hv => hQ v h' tk (by simpa using hv) }
  · rcases List.mem_cons.mp hb with z | z
    · exact Nat.le_of_eq z
    · rw [List.mem_singleton.mp z]; exact Nat.le_of_lt al
  · exact ⟨_, k _ _ tT (Heap.get?_push_size _ rfl), rfl, rfl⟩
  · obtain ⟨o, ho, r⟩ := ht
    exact ⟨o, k _ _ aT (Heap.get?_push_of_some _ ho), r⟩
  · obtain ⟨⟨o, ho, _⟩, _⟩ := st
    exact ⟨o, ho⟩
/-! ### enumerate over a tuple, from a number on -/
def IteT (K : PySem.W.Frag) (a : Addr) (c : Int) : It :=
  ⟨fun i H => ∃ (xs : List V) (x : V), SqT K H a xs ∧ xs[i]? = some x, fun i H v H' => ∃ T x, v = .ref T ∧ H T = none ∧ H' = upd H T (.tup [.int (c + (i : Int)), x]) ∧ ∀ xs, SqT K H a xs → xs[i]? = some x, fun i H => ∃ xs : List V, SqT K H a xs ∧ xs.length ≤ i⟩
theorem turn_enumT {P : Program} {w : World} {K : PySem.W.Frag} {elts : List Expr} {kk : Nat} {tpos : Pos} (a e it : Addr) (c : Int) :
    Turn P w K (.Tuple elts kk tpos) (IteT K a c) [e, it] e (fun i h => (∃ old, IsEnum h e it (c + (i : Int)) old) ∧ h.IsTupleIter it a i ∧ e ≠ it) where
  mem := by simp
  obj := fun i h st b hb => by
    obtain ⟨⟨old, he⟩, ⟨o, ho, hc, hd⟩, _⟩ := st
    rcases (by simpa using hb : b = e ∨ b = it) with z | z
    · rw [z]; exact ⟨_, he, fun v q => nomatch q⟩
    · rw [z]; exact ⟨o, ho, fun v q => by rw [hd] at q; cases q⟩
  keep := fun i h h' st k => let ⟨⟨old, he⟩, hi, ne⟩ := st; ⟨⟨old, k e (by simp) _ he⟩, hi.at fun o q => k it (by simp) o q, ne⟩
  item := by
    intro X hP hw hK hc i pins s σ H E I hf st hg
    subst hP hw hK
    obtain ⟨⟨old, he⟩, hit, ne⟩ := st
    obtain ⟨xs, x, hq, hx⟩ := hg
    obtain ⟨its, rv, p, hz⟩ := I.tuple hq
    obtain ⟨u, hu, ru⟩ := rv.get hx
    have el : e < s.heap.objs.size := Heap.lt_size he
    have il : it < s.heap.objs.size := by obtain ⟨_, q, _⟩ := hit; exact Heap.lt_size q
    have ai : a ≠ it := fun z => by
      obtain ⟨o1, q1, c1, _⟩ := hit
      obtain ⟨o2, q2, c2, _⟩ := p
      rw [z, q1] at q2
      cases q2
      rw [c1] at c2
      exact absurd c2 (by decide)
    have ae : a ≠ e := fun z => by
      obtain ⟨o2, q2, c2, _⟩ := p
      have q1 : s.heap.get? e = _ := he
      rw [z, q1] at q2
      cases q2
      exact absurd c2 (by show ¬ Value.type "enumerate" = Value.type "tuple"; decide)
    have D := Draws.tuple (prog := X.prog) (w := X.w) (A := X.A.in1) (I.ok.hd hc) it a ai its.toArray
    have isT : s.heap.IsTuple a its.toArray := p
    have lt : i < its.toArray.size := by rw [List.size_toArray]; exact (List.getElem?_eq_some_iff.mp hu).1
    refine wpAny_pyNext_enum_itemC D he ⟨hit, isT⟩ lt ne (by simp [ne, Ne.symm ae]) fun y h' tk hy ho st' hT hsz hk => ?_
    have ey : y = u := by
      have hy' : its.toArray[i]? = some y := hy
      rw [List.getElem?_toArray, hu] at hy'
      exact (Option.some.inj hy').symm
    subst ey
    refine ⟨_, rfl, wpAny_letOwnedTupleGo_enum (s := { s with heap := h', toks := tk + 1 }) ho fun h2 he2 sb => ?_⟩
    have hT2 : h2.get? s.heap.objs.size = some { cls := .type "tuple", data := .seq #[.int (c + (i : Int)) tk, y] } := (sb.2 _ (Nat.ne_of_gt el)).trans hT
    have new : ObjOk X.prog X.w (upd H s.heap.objs.size (.tup [.int (c + (i : Int)), x])) h2 s.heap.objs.size (.tup [.int (c + (i : Int)), x]) := ⟨by show 2 ≤ sizeLine; decide, [.int (c + (i : Int)) tk, y], .cons ⟨_, rfl⟩ (.cons ru .nil), ⟨_, hT2, rfl, _, rfl⟩⟩
    have I1 : Inv X pins σ (upd H s.heap.objs.size (.tup [.int (c + (i : Int)), x])) { s with heap := h2, toks := tk + 1 } :=
      I.turnedNew (ch := [e, it]) (fun b ob hb q => (sb.2 b (fun z => hb (by simp [z]))).trans (hk b ob (fun z => hb (by simp [z])) (fun z => hb (by simp [z])) q)) hf (Nat.le_refl _) new
    refine ⟨.ref s.heap.objs.size, _, I1, rfl, ⟨_, x, rfl, I.hok.fresh (Nat.le_refl _), rfl, fun ys hy2 => ?_⟩, ⟨⟨y, ?_⟩, st'.1.at fun o q => (sb.2 it (Ne.symm ne)).trans q, ne⟩, fun b hb => ?_⟩
    · rw [I.tuple_inj hy2 hq]; exact hx
    · rw [show c + ((i + 1 : Nat) : Int) = c + (i : Int) + 1 by omega]; exact he2
    · have hb' : b < s.heap.objs.size := by
        rcases (by simpa using hb : b = e ∨ b = it) with z | z
        · rw [z]; exact el
        · rw [z]; exact il
      rw [upd_ne (Nat.ne_of_lt hb')]
      exact (hf b hb).1
  done := by
    intro X hP hw hK hc i pins s σ H E I hf st hg
    subst hP hw hK
    obtain ⟨⟨old, he⟩, hit, ne⟩ := st
    obtain ⟨xs, hq, hx⟩ := hg
    obtain ⟨its, rv, p, hz⟩ := I.tuple hq
    obtain ⟨f0, f1, f2, f3, f4, f5⟩ := hf it (by simp)
    have hl := rv.length
    have isT : s.heap.IsTuple a its.toArray := p
    have D0 : Draws X.prog X.w X.A.in1 it [it, a] 0 (fun _ _ => False) (fun _ h => h.IsTupleIter it a i ∧ h.IsTuple a its.toArray) :=
      ⟨fun _ _ st => let ⟨o, ho, _⟩ := st.1; ⟨o, ho⟩, fun _ _ _ st k => ⟨st.1.at fun o q => k it (by simp) o q, st.2.at fun o q => k a (by simp) o q⟩, fun j s Q E lt => absurd lt (Nat.not_lt_zero j), fun s Q E st q => wpAny_nextOf_tuple_end (I.ok.hd hc) st.1 st.2 (by rw [List.getElem?_toArray]; exact List.getElem?_eq_none (by omega)) q⟩
    exact wpAny_pyNext_enum_endD D0 he ⟨hit, isT⟩ fun h' eb => ⟨rfl, I.turned (t' := s.toks) (fun b o hb q => eb b o hb q) f0 f1 f3 f4 f5⟩
  self := fun A i s Q E st h => let ⟨⟨_, he⟩, _⟩ := st; wpAny_pyIter_enum he h
/-- enumerate(v): its two new cells -/
theorem meets_enum1 {v : Value} {o : Obj} {Hh : Heap → Prop} (B : Begins v o Hh) :
    Meets (Builtin.«enumerate.__new__» ⟨[.type "enumerate", v], []⟩) (fun _ R s => Hh s.heap ∧ R (.ok (.ret (.ref (s.heap.push o).objs.size))) { s with heap := (s.heap.push o).push { cls := .type "enumerate", data := .fields #[.none, .bool false, .ref s.heap.objs.size, rawInt 0, .none, .none] } }) :=
  .of_wp fun prog w A R s h => by
    obtain ⟨hp, g, d, tk, os⟩ := s
    obtain ⟨h1, h⟩ := h
    have sub := sub_enumerate
    have q1 : ∀ {A' : Around} {E : Value → Shared → Prop} {Q : Value → Shared → Prop}, Q (.ref hp.objs.size) ⟨hp.push o, g, d, tk, os⟩ → wpAny (model prog w) A' (pyIter v) Q E ⟨hp, g, d, tk, os⟩ := fun q => B.iter prog w _ _ ⟨hp, g, d, tk, os⟩ _ h1 q
    wp_walk using q1
    refine wpAny_stack_any fun st => wpAny_pure ?_
    split
    · rename_i c _ _ _ _ _
      cases (c == Value.type "enumerate") <;> (wp_walk using q1; exact ⟨_, rfl, h⟩)
    · wp_walk using q1
      exact ⟨_, rfl, h⟩
theorem enum_begins1 {prog : Program} {w : World} {A : Around} {E : Value → Shared → Prop} {s : Shared} {v : Value} {o : Obj} {Hh : Heap → Prop} {Q : Value → Shared → Prop} (B : Begins v o Hh) (h1 : Hh s.heap)
    (h : ∀ h', IsEnum h' (s.heap.objs.size + 1) s.heap.objs.size 0 .none → h'.get? s.heap.objs.size = some o → h'.objs.size = s.heap.objs.size + 2 → (∀ b o, s.heap.get? b = some o → h'.get? b = some o) → Q (.ref (s.heap.objs.size + 1)) { s with heap := h' }) :
    wpAny (model prog w) A (call (.type "enumerate") [v]) Q E s := by
  refine callType_new PySem.F.called_enumerate (by decide) (PySem.F.typeCall_enumerate_1 _) (PySem.F.newCall_enumerate_1 _) (fun obj => PySem.F.args_object_init_2 obj _) PySem.F.entry_enumerate_new (meets_enum1 B) ⟨h1, ?_⟩
  have hz : (s.heap.push o).objs.size = s.heap.objs.size + 1 := Heap.size_push ..
  refine (?_ : _ ∧ _)
  rw [hz]
  have he : IsEnum ((s.heap.push o).push { cls := .type "enumerate", data := .fields #[.none, .bool false, .ref s.heap.objs.size, rawInt 0, .none, .none] }) (s.heap.objs.size + 1) s.heap.objs.size 0 .none := hz ▸ Heap.get?_push_size (s.heap.push o) (o := { cls := .type "enumerate", data := .fields #[.none, .bool false, .ref s.heap.objs.size, rawInt 0, .none, .none] }) rfl
  exact ⟨⟨_, he, rfl⟩, h _ he (Heap.get?_push_of_some _ (Heap.get?_push_size _ B.free)) (by rw [Heap.size_push, hz]) fun b o x => Heap.get?_push_of_some _ (Heap.get?_push_of_some _ x)⟩
section
variable {X : Cx}
theorem enum_over {pins : List (Addr × Obj)} {σ : L2.St} {H1 : Hp} {s1 : Shared} {elts : List Expr} {kk : Nat} {tpos : Pos} {R : It → Hp → Prop} {a : Addr} {xs : List V} {c : Int} (I1 : Inv X pins σ H1 s1) (hq : SqT X.K H1 a xs) (q : R (IteT X.K a c) H1) {h' : Heap}
    (he : IsEnum h' (s1.heap.objs.size + 1) s1.heap.objs.size c .none) (hi : h'.get? s1.heap.objs.size = some { cls := .type "tuple_iterator", data := .fields #[.ref a, .int 0 0] }) (hk : ∀ b o, s1.heap.get? b = some o → h'.get? b = some o) :
    wpAny (model X.prog X.w) X.A (pyIter (.ref (s1.heap.objs.size + 1))) (PIE X pins σ (.Tuple elts kk tpos) R) X.xe { s1 with heap := h' } := by
  refine wpAny_pyIter_enum he ?_
  have I2 : Inv X pins σ H1 { s1 with heap := h' } := I1.kept (t' := s1.toks) hk
  refine ⟨s1.heap.objs.size + 1, [s1.heap.objs.size + 1, s1.heap.objs.size], _, _, H1, rfl, I2, turn_enumT a (s1.heap.objs.size + 1) s1.heap.objs.size c, ⟨⟨.none, ?_⟩, ⟨_, hi, rfl, rfl⟩, Nat.succ_ne_self _⟩, fun b hb => ?_, q⟩
  · rw [show c + ((0 : Nat) : Int) = c by omega]; exact he
  · have hle : s1.heap.objs.size ≤ b := by
      rcases (by simpa using hb : b = s1.heap.objs.size + 1 ∨ b = s1.heap.objs.size) with z | z
      · rw [z]; exact Nat.le_add_right _ _
      · rw [z]; exact Nat.le_refl _
    exact I1.fpOk hle (I1.hok.fresh hle)
def iEnumT (K : PySem.W.Frag) (ta : TA) : TI := fun σ H R => ta σ H fun vs H1 => ∃ a xs, vs = [.ref a] ∧ SqT K H1 a xs ∧ R (IteT K a 0) H1
theorem pi_enumT {e : Expr} {ta : TA} {p pos tpos : Pos} {elts : List Expr} {kk : Nat} (hg : Gl X "enumerate") (hm : X.mg "enumerate" = none) (ha : PA X [e] ta) (hs : starEach [e] X.env = [(false, eval e X.env)] := by rfl) :
    PI X (.Tuple elts kk tpos) (.Call (.Name "enumerate" p) [e] [] pos) (iEnumT X.K ta) := by
  refine ⟨fun pins s σ H R I h => Call_ (ld_blt I hg hm boot_enumerate (PyProof.Rows.callWith_type1 (thn (ha.run pos pins s σ H _ I h) fun us s1 ⟨vs, H1, I1, r1, q1⟩ => ?_) hs rfl))⟩
  obtain ⟨a, xs, rfl, hq, q⟩ := q1
  rw [Vals.ref1 r1]
  obtain ⟨its, rv, p', hz⟩ := I1.tuple hq
  exact enum_begins1 (begins_tuple a its.toArray) p' fun h' he hi hsz hk => enum_over I1 hq q he hi hk
def iEnumTS (K : PySem.W.Frag) (ta tk : TA) : TI := fun σ H R => ta σ H fun vs H1 => tk σ H1 fun zs H2 => ∃ a xs c, vs = [.ref a] ∧ zs = [.int c] ∧ 0 ≤ c ∧ c < 2 ^ 62 ∧ SqT K H2 a xs ∧ R (IteT K a c) H2
theorem callWith_typeK {M : Model} {A : Around} {E : Value → Shared → Prop} {s : Shared} {pos : Pos} {T : String} {first : List Value} {args : List (Bool × Sem Value)} {kw : List (Option Str × Sem Value)} {Q : Value → Shared → Prop} (pl : args.any (·.1) = false) (kn : kw.any (·.1.isNone) = false)
    (h : wpAny M A (evalArgs (.type T) true args kw) (fun a s1 => wpAny M A (call (.type T) (first ++ a.pos) a.kw) Q E s1) E s) : wpAny M A (callWith pos (.type T) first args kw) Q E s := by
  unfold callWith
  refine wpAny_bind (wpAny_holding (wpAny_mono h (fun a s1 h1 => wpAny_bind (wpAny_standAt ?_)) fun _ _ z => z))
  simp only [pl, kn, Bool.or_false]
  exact wpAny_bind (wpAny_pure (wpAny_bind (wpAny_mono h1 (fun r s2 hr => wpAny_bind (wpAny_holding (wpAny_point (wpAny_pure hr)))) fun _ _ z => z)))
theorem pi_enumTS {e e2 : Expr} {ta tk : TA} {p pos tpos kpos : Pos} {elts : List Expr} {kk : Nat} (hg : Gl X "enumerate") (hm : X.mg "enumerate" = none) (ha : PA X [e] ta) (hk : PK X [⟨some "start", e2, kpos⟩] tk) (hs : starEach [e] X.env = [(false, eval e X.env)] := by rfl) :
    PI X (.Tuple elts kk tpos) (.Call (.Name "enumerate" p) [e] [⟨some "start", e2, kpos⟩] pos) (iEnumTS X.K ta tk) := by
  refine ⟨fun pins s σ H R I h => wpAny_Call_Name_kw (ld_blt I hg hm boot_enumerate (callWith_typeK ?_ (by rfl) ?_))⟩
  · rw [hs]; rfl
  rw [hs]
  refine PyProof.Rows.evalArgs_kwB (by rfl) ?_
  have run := ha.run pos pins s σ H _ I h
  rw [hs] at run
  refine thn run fun us s1 ⟨vs, H1, I1, r1, q1⟩ => thn (hk.run pos pins s1 σ H1 _ I1 q1) fun ws s2 ⟨zs, H2, I2, r2, q2⟩ => ?_
  obtain ⟨a, xs, c, rfl, rfl, c0, c1, hq, q⟩ := q2
  rw [Vals.ref1 r1]
  obtain ⟨u, rfl, t, rfl⟩ := vals1 r2
  obtain ⟨its, rv, p', hz⟩ := I2.tuple hq
  exact enum_begins_start (begins_tuple a its.toArray) p' (by omega) (by omega) fun h' he hi hsz hk' => enum_over I2 hq q he hi hk'
end
theorem walk_enumT {K : PySem.W.Frag} {a : Addr} {xs : List V} {c : Int} : Walk (IteT K a c) xs.length (fun H => SqT K H a xs) (YPair (fun i => some (.int (c + (i : Int)))) (fun i => xs[i]?)) := by
  refine ⟨fun i _ hi q => ⟨xs, xs[i], q, List.getElem?_eq_getElem hi⟩, fun _ q => ⟨xs, q, Nat.le_refl _⟩, fun i H v H' _ q y => ?_⟩
  obtain ⟨T, x, h1, h2, h3, h4⟩ := y
  exact ⟨T, .int (c + (i : Int)), x, h1, h2, h3, rfl, h4 xs q⟩
/-! ### enumerate over a list, from a number on -/
def IteL (K : PySem.W.Frag) (a : Addr) (c : Int) : It :=
  ⟨fun i H => ∃ (xs : List V) (x : V), SqL K H a xs ∧ xs[i]? = some x, fun i H v H' => ∃ T x, v = .ref T ∧ H T = none ∧ H' = upd H T (.tup [.int (c + (i : Int)), x]) ∧ ∀ xs, SqL K H a xs → xs[i]? = some x, fun i H => ∃ xs : List V, SqL K H a xs ∧ xs.length ≤ i⟩
theorem turn_enumL {P : Program} {w : World} {K : PySem.W.Frag} {elts : List Expr} {kk : Nat} {tpos : Pos} (a e it : Addr) (c : Int) :
    Turn P w K (.Tuple elts kk tpos) (IteL K a c) [e, it] e (fun i h => (∃ old, IsEnum h e it (c + (i : Int)) old) ∧ h.IsListIter it a i ∧ e ≠ it) where
  mem := by simp
  obj := fun i h st b hb => by
    obtain ⟨⟨old, he⟩, ⟨o, ho, hc, hd⟩, _⟩ := st
    rcases (by simpa using hb : b = e ∨ b = it) with z | z
    · rw [z]; exact ⟨_, he, fun v q => nomatch q⟩
    · rw [z]; exact ⟨o, ho, fun v q => by rw [hd] at q; cases q⟩
  keep := fun i h h' st k => let ⟨⟨old, he⟩, hi, ne⟩ := st; ⟨⟨old, k e (by simp) _ he⟩, hi.at fun o q => k it (by simp) o q, ne⟩
  item := by
    intro X hP hw hK hc i pins s σ H E I hf st hg
    subst hP hw hK
    obtain ⟨⟨old, he⟩, hit, ne⟩ := st
    obtain ⟨xs, x, hq, hx⟩ := hg
    obtain ⟨its, rv, pl, hz⟩ := I.list hq
    have p := pl.isList
    obtain ⟨u, hu, ru⟩ := rv.get hx
    have el : e < s.heap.objs.size := Heap.lt_size he
    have il : it < s.heap.objs.size := by obtain ⟨_, q, _⟩ := hit; exact Heap.lt_size q
    have ai : a ≠ it := fun z => by
      obtain ⟨o1, q1, c1, _⟩ := hit
      obtain ⟨o2, q2, c2, _⟩ := p
      rw [z, q1] at q2
      cases q2
      rw [c1] at c2
      exact absurd c2 (by decide)
    have ae : a ≠ e := fun z => by
      obtain ⟨o2, q2, c2, _⟩ := p
      have q1 : s.heap.get? e = _ := he
      rw [z, q1] at q2
      cases q2
      exact absurd c2 (by show ¬ Value.type "enumerate" = Value.type "list"; decide)
    have D := Draws.list (prog := X.prog) (w := X.w) (A := X.A.in1) (I.ok.hd hc) it a ai its.toArray
    have isT : s.heap.IsList a its.toArray := p
    have lt : i < its.toArray.size := by rw [List.size_toArray]; exact (List.getElem?_eq_some_iff.mp hu).1
    refine wpAny_pyNext_enum_itemC D he ⟨hit, isT⟩ lt ne (by simp [ne, Ne.symm ae]) fun y h' tk hy ho st' hT hsz hk => ?_
    have ey : y = u := by
      have hy' : its.toArray[i]? = some y := hy
      rw [List.getElem?_toArray, hu] at hy'
      exact (Option.some.inj hy').symm
    subst ey
    refine ⟨_, rfl, wpAny_letOwnedTupleGo_enum (s := { s with heap := h', toks := tk + 1 }) ho fun h2 he2 sb => ?_⟩
    have hT2 : h2.get? s.heap.objs.size = some { cls := .type "tuple", data := .seq #[.int (c + (i : Int)) tk, y] } := (sb.2 _ (Nat.ne_of_gt el)).trans hT
    have new : ObjOk X.prog X.w (upd H s.heap.objs.size (.tup [.int (c + (i : Int)), x])) h2 s.heap.objs.size (.tup [.int (c + (i : Int)), x]) := ⟨by show 2 ≤ sizeLine; decide, [.int (c + (i : Int)) tk, y], .cons ⟨_, rfl⟩ (.cons ru .nil), ⟨_, hT2, rfl, _, rfl⟩⟩
    have I1 : Inv X pins σ (upd H s.heap.objs.size (.tup [.int (c + (i : Int)), x])) { s with heap := h2, toks := tk + 1 } :=
      I.turnedNew (ch := [e, it]) (fun b ob hb q => (sb.2 b (fun z => hb (by simp [z]))).trans (hk b ob (fun z => hb (by simp [z])) (fun z => hb (by simp [z])) q)) hf (Nat.le_refl _) new
    refine ⟨.ref s.heap.objs.size, _, I1, rfl, ⟨_, x, rfl, I.hok.fresh (Nat.le_refl _), rfl, fun ys hy2 => ?_⟩, ⟨⟨y, ?_⟩, st'.1.at fun o q => (sb.2 it (Ne.symm ne)).trans q, ne⟩, fun b hb => ?_⟩
    · rw [I.list_inj hy2 hq]; exact hx
    · rw [show c + ((i + 1 : Nat) : Int) = c + (i : Int) + 1 by omega]; exact he2
    · have hb' : b < s.heap.objs.size := by
        rcases (by simpa using hb : b = e ∨ b = it) with z | z
        · rw [z]; exact el
        · rw [z]; exact il
      rw [upd_ne (Nat.ne_of_lt hb')]
      exact (hf b hb).1
  done := by
    intro X hP hw hK hc i pins s σ H E I hf st hg
    subst hP hw hK
    obtain ⟨⟨old, he⟩, hit, ne⟩ := st
    obtain ⟨xs, hq, hx⟩ := hg
    obtain ⟨its, rv, pl, hz⟩ := I.list hq
    have p := pl.isList
    obtain ⟨f0, f1, f2, f3, f4, f5⟩ := hf it (by simp)
    have hl := rv.length
    have isT : s.heap.IsList a its.toArray := p
    have D0 : Draws X.prog X.w X.A.in1 it [it, a] 0 (fun _ _ => False) (fun _ h => h.IsListIter it a i ∧ h.IsList a its.toArray) :=
      ⟨fun _ _ st => let ⟨o, ho, _⟩ := st.1; ⟨o, ho⟩, fun _ _ _ st k => ⟨st.1.at fun o q => k it (by simp) o q, st.2.at fun o q => k a (by simp) o q⟩, fun j s Q E lt => absurd lt (Nat.not_lt_zero j), fun s Q E st q => wpAny_nextOf_list_end (I.ok.hd hc) st.1 st.2 (by rw [List.getElem?_toArray]; exact List.getElem?_eq_none (by omega)) q⟩
    exact wpAny_pyNext_enum_endD D0 he ⟨hit, isT⟩ fun h' eb => ⟨rfl, I.turned (t' := s.toks) (fun b o hb q => eb b o hb q) f0 f1 f3 f4 f5⟩
  self := fun A i s Q E st h => let ⟨⟨_, he⟩, _⟩ := st; wpAny_pyIter_enum he h
/-- enumerate(v): its two new cells -/
theorem meets_enum1L {v : Value} {o : Obj} {Hh : Heap → Prop} (B : Begins v o Hh) :
    Meets (Builtin.«enumerate.__new__» ⟨[.type "enumerate", v], []⟩) (fun _ R s => Hh s.heap ∧ R (.ok (.ret (.ref (s.heap.push o).objs.size))) { s with heap := (s.heap.push o).push { cls := .type "enumerate", data := .fields #[.none, .bool false, .ref s.heap.objs.size, rawInt 0, .none, .none] } }) :=
  .of_wp fun prog w A R s h => by
    obtain ⟨hp, g, d, tk, os⟩ := s
    obtain ⟨h1, h⟩ := h
    have sub := sub_enumerate
    have q1 : ∀ {A' : Around} {E : Value → Shared → Prop} {Q : Value → Shared → Prop}, Q (.ref hp.objs.size) ⟨hp.push o, g, d, tk, os⟩ → wpAny (model prog w) A' (pyIter v) Q E ⟨hp, g, d, tk, os⟩ := fun q => B.iter prog w _ _ ⟨hp, g, d, tk, os⟩ _ h1 q
    wp_walk using q1
    refine wpAny_stack_any fun st => wpAny_pure ?_
    split
    · rename_i c _ _ _ _ _
      cases (c == Value.type "enumerate") <;> (wp_walk using q1; exact ⟨_, rfl, h⟩)
    · wp_walk using q1
      exact ⟨_, rfl, h⟩
theorem enum_begins1L {prog : Program} {w : World} {A : Around} {E : Value → Shared → Prop} {s : Shared} {v : Value} {o : Obj} {Hh : Heap → Prop} {Q : Value → Shared → Prop} (B : Begins v o Hh) (h1 : Hh s.heap)
    (h : ∀ h', IsEnum h' (s.heap.objs.size + 1) s.heap.objs.size 0 .none → h'.get? s.heap.objs.size = some o → h'.objs.size = s.heap.objs.size + 2 → (∀ b o, s.heap.get? b = some o → h'.get? b = some o) → Q (.ref (s.heap.objs.size + 1)) { s with heap := h' }) :
    wpAny (model prog w) A (call (.type "enumerate") [v]) Q E s := by
  refine callType_new PySem.F.called_enumerate (by decide) (PySem.F.typeCall_enumerate_1 _) (PySem.F.newCall_enumerate_1 _) (fun obj => PySem.F.args_object_init_2 obj _) PySem.F.entry_enumerate_new (meets_enum1L B) ⟨h1, ?_⟩
  have hz : (s.heap.push o).objs.size = s.heap.objs.size + 1 := Heap.size_push ..
  refine (?_ : _ ∧ _)
  rw [hz]
  have he : IsEnum ((s.heap.push o).push { cls := .type "enumerate", data := .fields #[.none, .bool false, .ref s.heap.objs.size, rawInt 0, .none, .none] }) (s.heap.objs.size + 1) s.heap.objs.size 0 .none := hz ▸ Heap.get?_push_size (s.heap.push o) (o := { cls := .type "enumerate", data := .fields #[.none, .bool false, .ref s.heap.objs.size, rawInt 0, .none, .none] }) rfl
  exact ⟨⟨_, he, rfl⟩, h _ he (Heap.get?_push_of_some _ (Heap.get?_push_size _ B.free)) (by rw [Heap.size_push, hz]) fun b o x => Heap.get?_push_of_some _ (Heap.get?_push_of_some _ x)⟩
section
variable {X : Cx}
theorem enum_overL {pins : List (Addr × Obj)} {σ : L2.St} {H1 : Hp} {s1 : Shared} {elts : List Expr} {kk : Nat} {tpos : Pos} {R : It → Hp → Prop} {a : Addr} {xs : List V} {c : Int} (I1 : Inv X pins σ H1 s1) (hq : SqL X.K H1 a xs) (q : R (IteL X.K a c) H1) {h' : Heap}
    (he : IsEnum h' (s1.heap.objs.size + 1) s1.heap.objs.size c .none) (hi : h'.get? s1.heap.objs.size = some { cls := .type "list_iterator", data := .fields #[.ref a, .int 0 0] }) (hk : ∀ b o, s1.heap.get? b = some o → h'.get? b = some o) :
    wpAny (model X.prog X.w) X.A (pyIter (.ref (s1.heap.objs.size + 1))) (PIE X pins σ (.Tuple elts kk tpos) R) X.xe { s1 with heap := h' } := by
  refine wpAny_pyIter_enum he ?_
  have I2 : Inv X pins σ H1 { s1 with heap := h' } := I1.kept (t' := s1.toks) hk
  refine ⟨s1.heap.objs.size + 1, [s1.heap.objs.size + 1, s1.heap.objs.size], _, _, H1, rfl, I2, turn_enumL a (s1.heap.objs.size + 1) s1.heap.objs.size c, ⟨⟨.none, ?_⟩, ⟨_, hi, rfl, rfl⟩, Nat.succ_ne_self _⟩, fun b hb => ?_, q⟩
  · rw [show c + ((0 : Nat) : Int) = c by omega]; exact he
  · have hle : s1.heap.objs.size ≤ b := by
      rcases (by simpa using hb : b = s1.heap.objs.size + 1 ∨ b = s1.heap.objs.size) with z | z
      · rw [z]; exact Nat.le_add_right _ _
      · rw [z]; exact Nat.le_refl _
    exact I1.fpOk hle (I1.hok.fresh hle)
def iEnumL (K : PySem.W.Frag) (ta : TA) : TI := fun σ H R => ta σ H fun vs H1 => ∃ a xs, vs = [.ref a] ∧ SqL K H1 a xs ∧ R (IteL K a 0) H1
theorem pi_enumL {e : Expr} {ta : TA} {p pos tpos : Pos} {elts : List Expr} {kk : Nat} (hg : Gl X "enumerate") (hm : X.mg "enumerate" = none) (ha : PA X [e] ta) (hs : starEach [e] X.env = [(false, eval e X.env)] := by rfl) :
    PI X (.Tuple elts kk tpos) (.Call (.Name "enumerate" p) [e] [] pos) (iEnumL X.K ta) := by
  refine ⟨fun pins s σ H R I h => Call_ (ld_blt I hg hm boot_enumerate (PyProof.Rows.callWith_type1 (thn (ha.run pos pins s σ H _ I h) fun us s1 ⟨vs, H1, I1, r1, q1⟩ => ?_) hs rfl))⟩
  obtain ⟨a, xs, rfl, hq, q⟩ := q1
  rw [Vals.ref1 r1]
  obtain ⟨its, rv, pl, hz⟩ := I1.list hq
  have p' := pl.isList
  exact enum_begins1L (begins_list a its.toArray) p' fun h' he hi hsz hk => enum_overL I1 hq q he hi hk
def iEnumLS (K : PySem.W.Frag) (ta tk : TA) : TI := fun σ H R => ta σ H fun vs H1 => tk σ H1 fun zs H2 => ∃ a xs c, vs = [.ref a] ∧ zs = [.int c] ∧ 0 ≤ c ∧ c < 2 ^ 62 ∧ SqL K H2 a xs ∧ R (IteL K a c) H2
theorem pi_enumLS {e e2 : Expr} {ta tk : TA} {p pos tpos kpos : Pos} {elts : List Expr} {kk : Nat} (hg : Gl X "enumerate") (hm : X.mg "enumerate" = none) (ha : PA X [e] ta) (hk : PK X [⟨some "start", e2, kpos⟩] tk) (hs : starEach [e] X.env = [(false, eval e X.env)] := by rfl) :
    PI X (.Tuple elts kk tpos) (.Call (.Name "enumerate" p) [e] [⟨some "start", e2, kpos⟩] pos) (iEnumLS X.K ta tk) := by
  refine ⟨fun pins s σ H R I h => wpAny_Call_Name_kw (ld_blt I hg hm boot_enumerate (callWith_typeK ?_ (by rfl) ?_))⟩
  · rw [hs]; rfl
  rw [hs]
  refine PyProof.Rows.evalArgs_kwB (by rfl) ?_
  have run := ha.run pos pins s σ H _ I h
  rw [hs] at run
  refine thn run fun us s1 ⟨vs, H1, I1, r1, q1⟩ => thn (hk.run pos pins s1 σ H1 _ I1 q1) fun ws s2 ⟨zs, H2, I2, r2, q2⟩ => ?_
  obtain ⟨a, xs, c, rfl, rfl, c0, c1, hq, q⟩ := q2
  rw [Vals.ref1 r1]
  obtain ⟨u, rfl, t, rfl⟩ := vals1 r2
  obtain ⟨its, rv, pl, hz⟩ := I2.list hq
  have p' := pl.isList
  exact enum_begins_start (begins_list a its.toArray) p' (by omega) (by omega) fun h' he hi hsz hk' => enum_overL I2 hq q he hi hk'
end
theorem walk_enumL {K : PySem.W.Frag} {a : Addr} {xs : List V} {c : Int} : Walk (IteL K a c) xs.length (fun H => SqL K H a xs) (YPair (fun i => some (.int (c + (i : Int)))) (fun i => xs[i]?)) := by
  refine ⟨fun i _ hi q => ⟨xs, xs[i], q, List.getElem?_eq_getElem hi⟩, fun _ q => ⟨xs, q, Nat.le_refl _⟩, fun i H v H' _ q y => ?_⟩
  obtain ⟨T, x, h1, h2, h3, h4⟩ := y
  exact ⟨T, .int (c + (i : Int)), x, h1, h2, h3, rfl, h4 xs q⟩
/-! ### *x, y = a list; a statement that is never come to; str(..) of a number or a text -/
section
variable {X : Cx}
theorem ps_never {st : Stmt} : PS X st (fun _ _ _ => False) := ⟨fun _ _ _ _ _ _ z => z.elim⟩
theorem call_strA : CallR X (.type "str") (fun xs H Q => (∃ i : Int, xs = [.int i] ∧ i.natAbs.log2 < 1920 ∧ Q (.str (toString i)) H) ∨ ∃ a, xs = [.str a] ∧ Q (.str a) H) := by
  intro pins s σ H xs us Q I r h
  rcases h with h | h
  · exact call_str_int pins s σ H xs us Q I r h
  · exact SkE.call_str_str pins s σ H xs us Q I r h
def gStar (K : PySem.W.Frag) (t : TGs) : TG := fun v σ H Q => ∃ (a : Addr) (ys : List V) (y : V), v = .ref a ∧ SqL K H a (ys ++ [y]) ∧ ys.length < 16000 ∧ ∀ D, H D = none → t [.ref D, y] σ (upd H D (.lst ys)) Q
theorem pgs_star {e : Expr} {es : List Expr} {sp : Pos} {t : TG} {u : TGs} (h1 : PG X e t) (h2 : PGs X es u)
    (hs : (assignEach (.Starred e sp :: es) X.env).map (·.2) = assign e X.env :: (assignEach es X.env).map (·.2) := by rfl) : PGs X (.Starred e sp :: es) (gCons t u) := by
  refine ⟨fun pins s σ H vs us Q I r h => ?_⟩
  obtain ⟨v, vr, rfl, h⟩ := h
  cases r with
  | cons rv rr =>
    rw [hs]
    exact assignInOrder_cons (thn (h1.run pins s σ H _ _ _ I rv h) fun _ s1 ⟨σ1, H1, I1, q1⟩ => h2.run pins s1 σ1 H1 _ _ Q I1 rr q1)
theorem pg_star {es : List Expr} {k : Nat} {pos : Pos} {t : TGs} (hc : X.calm = true) (h : PGs X es t)
    (two : (assignEach es X.env).length = 2 := by rfl) (first : (assignEach es X.env).findIdx? (·.1) = some 0 := by rfl) : PG X (.Tuple es k pos) (gStar X.K t) := by
  refine ⟨fun pins s σ H v u Q I r hw => ?_⟩
  obtain ⟨a, ys, y, rfl, hq, hz, hw⟩ := hw
  cases r
  obtain ⟨its, rv, pl, lz⟩ := I.list hq
  have isL : s.heap.IsList a its.toArray := pl.isList
  have calm := I.ok.hd hc
  have li : its.length = ys.length + 1 := by rw [← rv.length, List.length_append, List.length_singleton]
  obtain ⟨us, w1, rfl, ru, rw1⟩ : ∃ us w1, its = us ++ [w1] ∧ Vals ys us ∧ RelV y w1 := by
    clear hq hw isL pl hz li lz
    induction ys generalizing its with
    | nil =>
      cases rv with
      | cons q rn =>
        cases rn
        exact ⟨[], _, rfl, .nil, q⟩
    | cons x ys ih =>
      cases rv with
      | cons q rn =>
        obtain ⟨us, w1, e, e1, e2⟩ := ih _ rn
        exact ⟨_ :: us, w1, by rw [e]; rfl, .cons q e1, e2⟩
  have lu : us.length = ys.length := ru.length.symm
  have apart : a ≠ s.heap.objs.size := by
    obtain ⟨ob, at1, _⟩ := isL
    exact Nat.ne_of_lt (Heap.lt_size at1)
  rw [PyProof.Rows.assign_Tuple]
  refine wpAny_bind (wpAny_standAt ?_)
  unfold unpack
  rw [two, first]
  refine wpAny_bind (wpAny_holding ?_)
  unfold unpackItems
  refine wpAny_bind (show wpAny _ _ (notIterableAtAll (.ref a)) _ _ s from ?_)
  unfold notIterableAtAll
  refine wpAny_bind (wpAny_specialOf isL.typeIs slot_list_iter.lookup (wpAny_pure ?_))
  simp only [Bool.false_eq_true, if_false]
  refine wpAny_bind (wpAny_holding (wpAny_pyIter_list isL ?_))
  refine wpAny_bind (wpAny_holding (PySem.W.kun_draw apart 0 0 _ _ ⟨_, Heap.get?_push_size _ rfl, rfl, rfl⟩ (isL.push _) (Nat.zero_le _) fun g1 at1 sb1 => ?_))
  have isL1 : g1.IsList a (us ++ [w1]).toArray := (isL.push _).extBut sb1.extBut apart
  obtain ⟨oi, ati, _⟩ := id at1
  obtain ⟨ol, atl, _⟩ := id isL1
  rw [List.take_zero]
  refine wp_if_neg (by decide) ?_
  refine wpAny_bind (wpAny_holding (PySem.W.kun_collect (s := { s with heap := g1 }) (T := "list_iterator") (.inr (.inr (.inl rfl))) (Walks.list (A := X.A.in1) calm s.heap.objs.size a apart (us ++ [w1]).toArray) (fun j u st => st.1.typeIs) (k := 0) (Nat.zero_le _) ⟨at1, isL1⟩ (Heap.lt_size ati) (Heap.lt_size atl) (fun g2 tk old => ?_) (by rw [List.size_toArray, List.length_append, List.length_singleton, sizeLine_eq]; omega)))
  have l0 : (us ++ [w1]).toArray.toList = us ++ [w1] := rfl
  rw [List.drop_zero, l0]
  have ln : (us ++ [w1]).length = us.length + 1 := by rw [List.length_append, List.length_singleton]
  refine wp_if_neg (by rw [ln]; omega) ?_
  have e1 : (us ++ [w1]).take ((us ++ [w1]).length - (2 - 1 - 0)) = us := by rw [ln, Nat.add_sub_cancel, List.take_left' rfl]
  have e2 : (us ++ [w1]).drop ((us ++ [w1]).length - (2 - 1 - 0)) = [w1] := by rw [ln, Nat.add_sub_cancel, List.drop_left' rfl]
  rw [e1, e2]
  refine wpAny_bind (wpAny_newList (wpAny_pure ?_) (by rw [sizeLine_eq]; omega))
  have old2 : ∀ b o, s.heap.get? b = some o → g2.get? b = some o := fun b o e => old b o (Nat.ne_of_lt (Heap.lt_size e)) (sb1.extBut b o (Nat.ne_of_lt (Heap.lt_size e)) (Heap.get?_push_of_some _ e))
  have I1 : Inv X pins σ H { s with heap := g2, toks := tk } := I.kept (t' := tk) old2
  have fresh : H g2.objs.size = none := I1.hok.fresh (Nat.le_refl _)
  have I2 : Inv X pins σ (upd H g2.objs.size (.lst ys)) { s with heap := g2.push (seqObj "list" us.toArray 0), toks := tk } :=
    I1.laid (t' := tk) (fun b o e => Heap.get?_push_of_some _ e) (Nat.le_refl _) ⟨by rw [sizeLine_eq]; omega, us, 0, ru, Heap.get?_push_size _ rfl⟩
  exact h.run pins _ σ _ [.ref g2.objs.size, y] [.ref g2.objs.size, w1] Q I2 (.cons rfl (.cons rw1 .nil)) (hw _ fresh)
theorem pe_joinK {o e : Expr} {to te : TE} (K : PySem.W.Frag) (hK : X.K = K) {apos pos : Pos} (ho : PE X o to) (he : PE X e te) (hs : starEach [e] X.env = [(false, eval e X.env)] := by rfl) (hbase : attributeBase o "join" X.env (eval o X.env) = eval o X.env := by rfl) (hline : (apos.endLine == pos.line) = true := by rfl) :
    PE X (.Call (.Attribute o "join" apos) [e] [] pos) (tM1 (fun x xs H Q => ∃ a p, ∃ ys : List Str, x = .str a ∧ xs = [.ref p] ∧ (SqL K H p (ys.map V.str) ∨ SqT K H p (ys.map V.str)) ∧
      (ys.map (·.length)).sum + ys.length * a.length ≤ 16777216 ∧ Q (.str (Txt.join a ys)) H) to te) := hK ▸ pe_join ho he hs hbase hline
end
/-! ### a generator expression over a list; int(..) of a text within one -/
theorem over_lst {X : Cx} {s1 : Shared} {a T : Addr} {its : List Value} {ps : Array Value} (calm : X.A.handled = none) (ht : s1.heap.IsList a its.toArray) (hT : s1.heap.get? T = some { cls := .none, data := .fields ps }) : OverOk X (.ref a) s1 its.length (fun i v => its[i]? = some v) T := by
  have al : a < s1.heap.objs.size := by
    obtain ⟨o, ho, _⟩ := ht
    exact Heap.lt_size ho
  have aT : a ≠ T := fun z => by
    obtain ⟨o, ho, hcl, _⟩ := ht
    rw [z, hT] at ho
    cases ho
    cases hcl
  have tT : s1.heap.objs.size ≠ T := fun z => Nat.lt_irrefl _ (z ▸ Heap.lt_size hT)
  have sz : its.toArray.size = its.length := List.size_toArray ..
  refine ⟨{ cls := .type "list_iterator", data := .fields #[.ref a, .int 0 0] }, [s1.heap.objs.size, a], fun i h => h.IsListIter s1.heap.objs.size a i ∧ h.IsList a its.toArray, fun Q E q => wpAny_pyIter_list ht q, fun A' hA => ?_, fun b hb => ?_, fun h' k => ⟨?_, ?_⟩, fun i h st => ?_⟩
  · have W := Walks.list (prog := X.prog) (w := X.w) hA s1.heap.objs.size a (Nat.ne_of_lt al) its.toArray
    rw [sz] at W
    refine { W with item := fun i s Q E hi st hQ => W.item i s Q E hi st fun v h' tk hv => hQ v h' tk (by simpa using hv) }
  · rcases List.mem_cons.mp hb with z | z
    · exact Nat.le_of_eq z
    · rw [List.mem_singleton.mp z]; exact Nat.le_of_lt al
  · exact ⟨_, k _ _ tT (Heap.get?_push_size _ rfl), rfl, rfl⟩
  · obtain ⟨o, ho, r⟩ := ht
    exact ⟨o, k _ _ aT (Heap.get?_push_of_some _ ho), r⟩
  · obtain ⟨⟨o, ho, _⟩, _⟩ := st
    exact ⟨o, ho⟩
section
variable {P : Program} {w : World} {A : Around} {env : Env} {s : Shared} {e : Expr} {pos p : Pos}
abbrev IsS (x : Str) : Value → Prop := fun y => ∃ t, y = .str x t
theorem gv_intT {x : Str} {n : Int} {mg mb : Str → Option Value} (hk : env.scope.kind = .function) (hx : env.kindOf "int" = some .globalImplicit) (hg : s.heap.Ns env.globals mg) (hm : mg "int" = none) (hb : s.heap.Ns env.builtins mb) (hv : mb "int" = some (.type "int"))
    (he : GV P w A env s e (IsS x)) (hn : PySem.intText? x = some n) (hl : x.length ≤ 640) (hs : starEach [e] env = [(false, eval e env)] := by rfl) : GV P w A env s (.Call (.Name "int" p) [e] [] pos) (IsI n) := fun E s1 k => by
  refine Call_Name1 ?_ hs
  refine Calls.Name_function_global hk hx (Calls.loadGlobal_builtin (hg.keeps (keepsH k)) hm (hb.keeps (keepsH k)) hv ?_)
  refine PyProof.Rows.callWith_type (by rfl) ?_
  refine Calls.evalArgs_plain (Calls.spliced_cons (wpAny_mono (he E s1 k) (fun y s2 ⟨⟨t, ey⟩, k2⟩ => ?_) fun _ _ z => z))
  subst ey
  exact Calls.spliced_nil (PySem.W.KIN.call_text hn hl ⟨⟨_, rfl⟩, keepsK k2 _⟩)
end
/-! ### own errors with two fields: raised, caught, asked -/
/-- what the text says of the class at C (over ValueError, by way of the class at B), of its __init__ at fI -/
structure ErrTxt (K : PySem.W.Frag) (mg : Str → Option Value) (x xB f g : Str) (C B fI : Addr) : Prop where
  gC : mg x = some (.ref C)
  gB : mg xB = some (.ref B)
  ox : OexC K C
  xf : XfC K C
  ec : ExcC K C
  iC : PySem.W.findIn K (.ref C) "__init__" = some (some (.ref fI))
  tI : PySem.W.typeIn K (.ref fI) = some (.type "function")
  nf : PySem.W.findIn K (.ref C) f = some none
  ng : PySem.W.findIn K (.ref C) g = some none
  te : PySem.W.exmOne K (.ref C) (.ref C) = some true
  kB : PySem.W.kitOne K (.ref C) (.ref B) = some true
  kV : PySem.W.kitOne K (.ref C) (.type "ValueError") = some true
  tB : PySem.W.exmOne K (.ref C) (.ref B) = some true
/-- what __init__ leaves -/
def spInit2 (K : PySem.W.Frag) (C : Addr) (f g : Str) : Sp := fun vs H Q _ => ∃ (a : Addr) (x y : V), vs = [.ref a, x, y] ∧ H a = some (exo a C none) ∧
  ∀ dx, H dx = none → dx ≠ a → Q .non (upd (upd (upd H dx (exd dx [(f, x)])) a (exo a C (some dx))) dx (exd dx [(g, y), (f, x)]))
/-- the class called with two values: what then is to be shown -/
theorem err_two {K : PySem.W.Frag} {C : Addr} {f g : Str} {x y : V} {H1 : Hp} {Q : XK} (k : ∀ d, H1 d = none → Q (.ref C) (some d) (upd H1 d (.xd [(g, y), (f, x)]))) :
    ([x, y] : List V).length ≤ 1000 ∧ ∀ a, H1 a = none → spInit2 K C f g (.ref a :: ([x, y] ++ [])) (upd H1 a (exo a C none))
      (fun v H2 => v = .non ∧ ∃ (d : Addr) (fs : List (Str × V)), H2 a = some (exo a C (some d)) ∧ H2 d = some (exd d fs) ∧ H1 d = none ∧ Q (.ref C) (some d) (upd (del H2 a) d (.xd fs))) (fun _ _ _ => False) := by
  refine ⟨by show 2 ≤ 1000; decide, fun a ha => ⟨a, x, y, rfl, upd_same, fun dx hd ne => ?_⟩⟩
  have hd1 : H1 dx = none := by
    rw [upd_ne ne] at hd
    exact hd
  refine ⟨rfl, dx, [(g, y), (f, x)], ?_, upd_same, hd1, ?_⟩
  · rw [upd_ne (Ne.symm ne), upd_same]
  · have e : upd (del (upd (upd (upd (upd H1 a (exo a C none)) dx (exd dx [(f, x)])) a (exo a C (some dx))) dx (exd dx [(g, y), (f, x)])) a) dx (.xd [(g, y), (f, x)]) = upd H1 dx (.xd [(g, y), (f, x)]) := by
      funext b
      by_cases bd : b = dx
      · rw [bd, upd_same, upd_same]
      · rw [upd_ne bd, upd_ne bd]
        by_cases ba : b = a
        · rw [ba, del_same, ha]
        · rw [del_ne ba, upd_ne bd, upd_ne ba, upd_ne bd, upd_ne ba]
    rw [e]
    exact k dx hd1
/-- what __init__ leaves that sets one field -/
def spInit1 (K : PySem.W.Frag) (C : Addr) (f : Str) : Sp := fun vs H Q _ => ∃ (a : Addr) (x : V), vs = [.ref a, x] ∧ H a = some (exo a C none) ∧
  ∀ dx, H dx = none → dx ≠ a → Q .non (upd (upd H dx (exd dx [(f, x)])) a (exo a C (some dx)))
/-- the class called with one value: what then is to be shown -/
theorem err_one {K : PySem.W.Frag} {C : Addr} {f : Str} {x : V} {H1 : Hp} {Q : XK} (k : ∀ d, H1 d = none → Q (.ref C) (some d) (upd H1 d (.xd [(f, x)]))) :
    ([x] : List V).length ≤ 1000 ∧ ∀ a, H1 a = none → spInit1 K C f (.ref a :: ([x] ++ [])) (upd H1 a (exo a C none))
      (fun v H2 => v = .non ∧ ∃ (d : Addr) (fs : List (Str × V)), H2 a = some (exo a C (some d)) ∧ H2 d = some (exd d fs) ∧ H1 d = none ∧ Q (.ref C) (some d) (upd (del H2 a) d (.xd fs))) (fun _ _ _ => False) := by
  refine ⟨by show 1 ≤ 1000; decide, fun a ha => ⟨a, x, rfl, upd_same, fun dx hd ne => ?_⟩⟩
  have hd1 : H1 dx = none := by
    rw [upd_ne ne] at hd
    exact hd
  refine ⟨rfl, dx, [(f, x)], upd_same, ?_, hd1, ?_⟩
  · rw [upd_ne ne, upd_same]
  · have e : upd (del (upd (upd (upd H1 a (exo a C none)) dx (exd dx [(f, x)])) a (exo a C (some dx))) a) dx (.xd [(f, x)]) = upd H1 dx (.xd [(f, x)]) := by
      funext b
      by_cases bd : b = dx
      · rw [bd, upd_same, upd_same]
      · rw [upd_ne bd, upd_ne bd]
        by_cases ba : b = a
        · rw [ba, del_same, ha]
        · rw [del_ne ba, upd_ne ba, upd_ne bd, upd_ne ba]
    rw [e]
    exact k dx hd1
/-- isinstance of the caught error -/
def rIsX (K : PySem.W.Frag) (D a : Addr) (cls : Value) (d : Option Addr) : List V → Hp → VK → Prop := fun xs H Q => ∃ (c : V) (cv : Value) (b : Bool) (dd : Addr) (fs : List (Str × V)), xs = [.ref a, c] ∧ cls = .ref D ∧ d = some dd ∧ H dd = some (.xd fs) ∧ (∀ u, RelV c u → u = cv) ∧ PySem.W.kitOne K (.ref D) cv = some b ∧ Q (.bl b) H
theorem call_isX {X : Cx} {a D : Addr} {oe : Obj} {cls : Value} {d : Option Addr} {pn : List (Addr × Obj)} (C : ExcC X.K D) (hz : Zc cls d oe) (hf : ∃ vs, oe.data = .fields vs) : CallR (X.suite a ((a, oe) :: pn)) (.builtin "isinstance") (rIsX X.K D a cls d) := by
  intro pins s σ H xs us Q I r h
  obtain ⟨c, cv, b, dd, fs, rfl, ec, ed, hdd, hcv, e, q⟩ := h
  cases r with
  | cons rx rr =>
    cases rr with
    | cons rt rr =>
      cases rr
      cases rx
      have ecv := hcv _ rt
      subst ecv
      subst ec
      subst ed
      obtain ⟨hget, _⟩ := I.pin (a, oe) (List.mem_append.mpr (.inl List.mem_cons_self))
      obtain ⟨vs, hv⟩ := hf
      have hx : ObjOk X.prog X.w H s.heap dd (.xd fs) := I.hok dd _ hdd
      obtain ⟨mA, hns, hr⟩ := hx
      obtain ⟨od, ho, hl⟩ := lookIn_ns hns
      have J : PySem.W.InstAt s.heap a oe D (some od) := ⟨hget, hz.1, by unfold PySem.W.notCls; rw [hv] <;> rfl, by rw [hz.2]; exact ho⟩
      have hcl : (PySem.W.clsIn X.K D).isSome = true := by
        obtain ⟨cd, hc, _⟩ := PySem.W.any_some C.hd
        rw [hc]
        rfl
      exact PySem.W.kia_one (PySem.W.kitx_exc hcl C.hg C.hk C.hs C.ha C.hn C.ht C.hm) I.kIn J e (fun z => nomatch z) fun tk => ⟨.bl b, H, I.kept (t' := tk) fun _ _ z => z, rfl, q⟩
/-- an error of the class at S is what «except S» names; the class of which it is one -/
theorem exm_self {K : PySem.W.Frag} {S : Addr} (h1 : PySem.W.subIn K (.ref S) (.type "BaseException") = some true) (h2 : PySem.W.isClsIn K S = true) (h3 : PySem.W.typeIn K (.ref S) = some (.type "type")) (h4 : PySem.W.subIn K (.ref S) (.ref S) = some true) :
    PySem.W.exmOne K (.ref S) (.ref S) = some true := by
  have e1 : (PySem.W.subIn K (.ref S) (.type "BaseException") == some true) = true := by rw [h1] <;> rfl
  have e2 : ((PySem.W.clsIn K S).isSome && PySem.W.typeIn K (.ref S) == some (.type "type")) = true := by
    have h2' : (PySem.W.clsIn K S).isSome = true := h2
    rw [h2', h3] <;> rfl
  show (if (PySem.W.subIn K (.ref S) (.type "BaseException") == some true) = true then (if ((PySem.W.clsIn K S).isSome && PySem.W.typeIn K (.ref S) == some (.type "type")) = true then PySem.W.subIn K (.ref S) (.ref S) else none) else none) = some true
  rw [if_pos e1, if_pos e2]
  exact h4
theorem kit_ref {K : PySem.W.Frag} {S B : Addr} (h2 : PySem.W.isClsIn K B = true) (h3 : PySem.W.typeIn K (.ref B) = some (.type "type")) (h4 : PySem.W.subIn K (.ref S) (.ref B) = some true) : PySem.W.kitOne K (.ref S) (.ref B) = some true := by
  have e2 : ((PySem.W.clsIn K B).isSome && PySem.W.typeIn K (.ref B) == some (.type "type")) = true := by
    have h2' : (PySem.W.clsIn K B).isSome = true := h2
    rw [h2', h3] <;> rfl
  show (if (Value.ref S == Value.ref B) = true then some true else (if ((PySem.W.clsIn K B).isSome && PySem.W.typeIn K (.ref B) == some (.type "type")) = true then PySem.W.subIn K (.ref S) (.ref B) else none)) = some true
  rw [if_pos e2, h4]
  split <;> rfl
theorem kit_VE {K : PySem.W.Frag} {S : Addr} (h4 : PySem.W.subIn K (.ref S) (.type "ValueError") = some true) : PySem.W.kitOne K (.ref S) (.type "ValueError") = some true := by
  have e0 : ¬ (Value.ref S == Value.type "ValueError") = true := fun z => by
    have z' := beq_iff_eq.mp z
    cases z'
  have e1 : PySem.W.kitMeta "ValueError" = true := by decide +kernel
  show (if (Value.ref S == Value.type "ValueError") = true then some true else (if PySem.W.kitMeta "ValueError" = true then PySem.W.subIn K (.ref S) (.type "ValueError") else none)) = some true
  rw [if_neg e0, if_pos e1]
  exact h4
/-- an error is one of its base, which may be named by «except» -/
theorem exm_base {K : PySem.W.Frag} {S B : Addr} (h1 : PySem.W.subIn K (.ref B) (.type "BaseException") = some true) (h2 : PySem.W.isClsIn K B = true) (h3 : PySem.W.typeIn K (.ref B) = some (.type "type")) (h4 : PySem.W.subIn K (.ref S) (.ref B) = some true) :
    PySem.W.exmOne K (.ref S) (.ref B) = some true := by
  have e1 : (PySem.W.subIn K (.ref B) (.type "BaseException") == some true) = true := by rw [h1] <;> rfl
  have e2 : ((PySem.W.clsIn K B).isSome && PySem.W.typeIn K (.ref B) == some (.type "type")) = true := by
    have h2' : (PySem.W.clsIn K B).isSome = true := h2
    rw [h2', h3] <;> rfl
  show (if (PySem.W.subIn K (.ref B) (.type "BaseException") == some true) = true then (if ((PySem.W.clsIn K B).isSome && PySem.W.typeIn K (.ref B) == some (.type "type")) = true then PySem.W.subIn K (.ref S) (.ref B) else none) else none) = some true
  rw [if_pos e1, if_pos e2]
  exact h4
theorem kit_same {K : PySem.W.Frag} {S : Addr} : PySem.W.kitOne K (.ref S) (.ref S) = some true := by
  have e : (Value.ref S == Value.ref S) = true := beq_iff_eq.mpr rfl
  show (if (Value.ref S == Value.ref S) = true then some true else _) = some true
  rw [if_pos e]
/-! ### defs whose calls know that no repr is under way -/
structure FnOkG (P : Program) (w : World) (K : PySem.W.Frag) (mg : Str → Option Value) (base : Heap) (CX : CXT) (k : Nat) (f : Addr) (fd : FuncData) (ps : List Str) (sp : Sp) : Prop where
  len : ∀ vs H Q E, sp vs H Q E → vs.length = ps.length
  run : ∀ (A : Around) (outer : List Env) (s : Shared) (H : Hp) (args : Args) (us : List Value) (vs : List V) (Q : VK) (E : XK), A.guards = some [] → Room k A → Env0 P w K mg base A outer s H → BindsTo s fd args (ps.zip us) → Vals vs us → sp vs H Q E →
    codeAny (model P w) A (.call (.ref f) args) (CR CX outer P w H s Q E) s
theorem fn_ofG {CX : CXT} {P : Program} {w : World} {K : PySem.W.Frag} {mg : Str → Option Value} {base : Heap} {k : Nat} {f : Addr} {name qual : Str} {params : Arguments} {body : List Stmt} {scope : Scope} {dV kV doc pm cdv ct oc : Value} {an od : Option Addr}
    {osl : Array (Option Value)} {N ps : List Str} {sp : Sp} (lk : K.lookup f = some ⟨oc, od, .func (PySem.W.fnOf name qual params body scope dV kV doc pm an cdv ct), osl⟩) (hcd : PySem.W.codeIn K cdv qual = true) (S : FnScope N ps scope)
    (len : ∀ vs H Q E, sp vs H Q E → vs.length = ps.length)
    (hbody : ∀ (A : Around) (outer : List Env) (s : Shared) (H : Hp) (vs : List V) (Q : VK) (E : XK), A.guards = some [] → Room k (A.deeper (envOfC qual scope s.heap.objs.size f cdv)) → sp vs H Q E →
      ∃ t, PSs (cxOf CX P w K mg base N qual scope f cdv A outer s H E) body t ∧ t { nx := fun _ H' => Q .non H', rt := Q } (start N vs) H) :
    FnOkG P w K mg base CX (k + 1) f (PySem.W.fnOf name qual params body scope dV kV doc pm an cdv ct) ps sp := by
  refine ⟨len, fun A outer s H args us vs Q E hg hr e0 hb r hsp => ?_⟩
  have hl := len _ _ _ _ hsp
  have KX : K.In s.heap := e0.mod.kin.keeps fun b o e => (e0.bs b o e).1
  have lim : s.heap.NoLimit := e0.mod.nolimit.keeps fun b o e => (e0.bs b o e).1
  have hkind : ∀ y ∈ ps.zip us, scope.names.lookup y.1 = some .local ∨ (scope.names.lookup y.1 = some .cell ∧ ((cellsFrom (s.heap.objs.size + 1) scope.names []).lookup y.1).isSome = true) := fun ⟨n, v⟩ hy => by
    rcases S.par n (List.of_mem_zip hy).1 with q | q
    · exact .inl q
    · exact .inr ⟨q, PySem.W.cellsFrom_some _ _ _ (.inl q)⟩
  refine codeAny_call_function hr.depth (KX _ _ lk) rfl S.co S.gen rfl (PySem.W.codeRec_of KX hcd) (hb _ _ _ _ ?_)
  refine wpAny_newFunctionEnv_cells S.kind hkind fun env he s1 x => ?_
  subst he
  refine ⟨lim.keeps x.toInCall.keep, codeAny_func ?_⟩
  obtain ⟨t, ht, hq⟩ := hbody A outer s H vs Q E hg (hr.deeper _) hsp
  have I : Inv (cxOf CX P w K mg base N qual scope f cdv A outer s H E) [] (start N vs) H s1 := inv_start S hr.hd e0 hl r x
  refine wpAny_mono (ht.run [] s1 (start N vs) H _ I hq) (fun fl s' hs => ?_) fun e s' hs => hs
  have fin : ∀ {σ' : L2.St} {H' : Hp} {v : V} {u : Value}, Inv (cxOf CX P w K mg base N qual scope f cdv A outer s H E) [] σ' H' s' → RelV v u → Q v H' → CE outer P w H s Q u s' :=
    fun {σ' H' v u} J rv q => ⟨v, H', J.os, J.bare, J.base, J.hok, rv, q⟩
  cases fl with
  | ret u =>
    obtain ⟨v, σ', H', J, rv, q⟩ := hs
    exact fin J rv q
  | next =>
    obtain ⟨σ', H', J, q⟩ := hs
    exact fin (v := V.non) (u := Value.none) J rfl q
  | brk =>
    obtain ⟨_, _, _, q⟩ := hs
    exact False.elim q
  | cont =>
    obtain ⟨_, _, _, q⟩ := hs
    exact False.elim q
theorem Fun.okG {P : Program} {w : World} {K : PySem.W.Frag} {mg : Str → Option Value} {base : Heap} {x qual : Str} {st : Stmt} {f : Addr} {fd : FuncData} {N ps : List Str} {k : Nat} {sp : Sp} (F : Fun K x qual st f fd) (S : FnScope N ps (defScope st)) (len : ∀ vs H Q E, sp vs H Q E → vs.length = ps.length)
    (hbody : ∀ (cdv : Value) (A : Around) (outer : List Env) (s : Shared) (H : Hp) (vs : List V) (Q : VK) (E : XK), A.guards = some [] → Room k (A.deeper (envOfC qual (defScope st) s.heap.objs.size f cdv)) → sp vs H Q E →
      ∃ t, PSs (cxOf CX0 P w K mg base N qual (defScope st) f cdv A outer s H E).nox (defBody st) t ∧ t { nx := fun _ H' => Q .non H', rt := Q } (start N vs) H) : FnOkG P w K mg base CX0 (k + 1) f fd ps sp := by
  obtain ⟨oc, od, kV, doc, pm, an, cdv, ct, osl, rfl, lk, hcd⟩ := F.ex
  refine fn_ofG lk hcd S len fun A outer s H vs Q E hg hr hsp => ?_
  obtain ⟨t, h, q⟩ := hbody cdv A outer s H vs Q E hg hr hsp
  exact ⟨t, h.nox, q⟩
section
variable {X : Cx} {CX : CXT} {k : Nat} {f C : Addr} {fd : FuncData} {ps : List Str} {sp : Sp} {dvs : List V} {ds : List Value} {E : XK} {x m : Str} {p pos apos : Pos} {e o : Expr} {es : List Expr} {ta : TE} {t : TA}
theorem run_fnG {pins : List (Addr × Obj)} {σ : L2.St} {H : Hp} {s : Shared} {Q : VK} {us : List Value} {vs : List V} (F : FnOkG X.prog X.w X.K X.mg X.base CX k f fd ps sp) (hgd : X.A.guards = some []) (hr : Room k X.A) (hb : Binds X.K fd ps ds) (hd : Vals dvs ds) (hx : Passes CX X E)
    (I : Inv X pins σ H s) (r : Vals vs us) (h : sp (vs ++ dvs) H Q E) : wpAny (model X.prog X.w) X.A (call (.ref f) us) (EP X pins σ Q) X.xe s := by
  have r2 : Vals (vs ++ dvs) (us ++ ds) := r.append hd
  have hl : (us ++ ds).length = ps.length := by rw [← r2.length]; exact F.len _ _ _ _ h
  refine wpAny_call (codeAny_mono (F.run X.A X.stack s H ⟨us, []⟩ (us ++ ds) (vs ++ dvs) Q E hgd hr I.env0 (hb s us I.kIn hl) r2 h) fun r s' hq => ?_)
  cases r with
  | error e => exact hx pins σ H s e s' I hq
  | ok fl =>
    cases fl with
    | ret u => exact I.after hq
    | next => exact False.elim hq
    | brk => exact False.elim hq
    | cont => exact False.elim hq
theorem pe_callG (F : FnOkG X.prog X.w X.K X.mg X.base CX k f fd ps sp) (hgd : X.A.guards = some []) (hr : Room k X.A) (hg : Gl X x) (hm : X.mg x = some (.ref f)) (hk : PySem.W.keepIn X.K (.ref f) = true) (hb : Binds X.K fd ps ds) (hd : Vals dvs ds) (hx : Passes CX X E)
    (ha : PA X (e :: es) t) (hdb : (x == ("__debug__" : Str)) = false := by decide) (he : starEach (e :: es) X.env = (false, eval e X.env) :: starEach es X.env := by rfl) (hpl : (backTo pos (starEach es X.env)).any (·.1) = false := by rfl) :
    PE X (.Call (.Name x p) (e :: es) [] pos) (tCall sp dvs E t) := by
  refine ⟨fun pins s σ H Q I h => ?_⟩
  refine wpAny_Call_Name_kw (ld_glob I hg hm ?_ hdb)
  refine PySem.W.callWith_K (h₀ := X.base) I.ok.mod.kin hk (thn (ha.run pos pins s σ H _ I h) fun us s1 ⟨vs, H1, I1, r, q⟩ => ⟨I1.kIn, ?_⟩) he hpl
  exact run_fnG F hgd hr hb hd hx I1 r q
end
/-! ### tables of sets of up to some three hundred: masks to 511 -/
open PySem.SetTable in
def orbL (m : Nat) : Nat → Nat → List Nat
  | 0, _ => []
  | n + 1, x => x :: orbL m n ((x * 5 + 1) % (m + 1))
theorem orbL_at (m a : Nat) : ∀ (n : Nat) (y : Nat), y ∈ orbL m n (lcgN m a) → ∃ b, b < a + n ∧ lcgN m b = y
  | 0, _, hy => absurd hy List.not_mem_nil
  | n + 1, y, hy => by
    rcases List.mem_cons.mp hy with e | e
    · exact ⟨a, by omega, e.symm⟩
    · obtain ⟨b, hb, eb⟩ := orbL_at m (a + 1) n y e
      exact ⟨b, by omega, eb⟩
def orbFull (m : Nat) : Bool := (List.range (m + 1)).all (fun y => (orbL m (m + 1) 0).contains y) && (lcgN m (m + 1) == 0)
/-- the masks whose round is whole -/
def MaskW (m : Nat) : Prop := m = 7 ∨ m = 31 ∨ m = 127 ∨ m = 511
theorem orb_7 : orbFull 7 = true := by decide +kernel
theorem orb_31 : orbFull 31 = true := by decide +kernel
theorem orb_127 : orbFull 127 = true := by decide +kernel
theorem orb_511 : orbFull 511 = true := by decide +kernel
theorem MaskW.full {m : Nat} (W : MaskW m) : orbFull m = true := by
  rcases W with e | e | e | e <;> subst e
  · exact orb_7
  · exact orb_31
  · exact orb_127
  · exact orb_511
theorem MaskW.odd {m : Nat} (W : MaskW m) : m % 2 = 1 := by
  rcases W with e | e | e | e <;> subst e <;> rfl
theorem MaskW.from0 {m y : Nat} (W : MaskW m) (hy : y ≤ m) : ∃ b, b ≤ m ∧ lcgN m b = y := by
  have f := W.full
  unfold orbFull at f
  rw [Bool.and_eq_true] at f
  have g := List.all_eq_true.mp f.1 y (List.mem_range.mpr (by omega))
  obtain ⟨b, hb, e⟩ := orbL_at m 0 (m + 1) y (List.contains_iff_mem.mp g)
  exact ⟨b, by omega, e⟩
theorem MaskW.again {m : Nat} (W : MaskW m) : ∀ k, lcgN m (m + 1 + k) = lcgN m k
  | 0 => by
    have f := W.full
    unfold orbFull at f
    rw [Bool.and_eq_true] at f
    exact beq_iff_eq.mp f.2
  | k + 1 => by
    have e := W.again k
    show (lcgN m (m + 1 + k) * 5 + 1) % (m + 1) = _
    rw [e]
    rfl
theorem MaskW.round {m x y : Nat} (W : MaskW m) (hx : x ≤ m) (hy : y ≤ m) : ∃ k, k ≤ m ∧ lcgI m x k = y := by
  obtain ⟨p, hp, rfl⟩ := W.from0 hx
  obtain ⟨q, hq, rfl⟩ := W.from0 hy
  by_cases c : p ≤ q
  · exact ⟨q - p, by omega, by rw [lcgN_add, show p + (q - p) = q by omega]⟩
  · exact ⟨q + (m + 1) - p, by omega, by rw [lcgN_add, show p + (q + (m + 1) - p) = m + 1 + q by omega, W.again]⟩
theorem MaskW.run {m : Nat} (W : MaskW m) (g : Int) {y : Nat} (hy : y ≤ m) : ∃ n, n ≤ m + 12 ∧ runI m (SetTable.bits g) n = y := by
  obtain ⟨k, hk, e⟩ := W.round (runI_le m (SetTable.bits g) 12) hy
  refine ⟨12 + k, by omega, ?_⟩
  rw [runI_tail (bits_lt g), e]
theorem MaskW.meets {m : Nat} (W : MaskW m) (g : Int) {y : Nat} (hy : y ≤ m) : ∃ k, k < 10 * SetTable.turns m ∧ way m g k = y := by
  obtain ⟨n, hn, e⟩ := W.run g hy
  obtain ⟨k, hk, e2⟩ := run_nth m (SetTable.bits g) n
  have t : SetTable.turns m = m + 15 := rfl
  refine ⟨k, by omega, ?_⟩
  show (nth m (runAt m (SetTable.bits g % (m + 1)) (SetTable.bits g)) k).j = y
  rw [e2]
  exact e
theorem way_in (m : Nat) (g : Int) (k : Nat) : way m g k ≤ m := by
  have lo : SetTable.bits g % (m + 1) ≤ m := Nat.lt_succ_iff.mp (Nat.mod_lt _ (Nat.succ_pos m))
  have up := runEnd_bd lo
  have z := nth_in (m := m) k (runAt m (SetTable.bits g % (m + 1)) (SetTable.bits g)) (by show SetTable.bits g % (m + 1) + (SetTable.runEnd m (SetTable.bits g % (m + 1)) - SetTable.bits g % (m + 1)) ≤ m; omega)
  exact Nat.le_trans (Nat.le_add_right _ _) z
/-- the table finds each of its hashes again -/
structure TabW (t : SetTable) (gs : List Int) : Prop where
  ris : Ris t.place.toList
  dm : t.dummies = #[]
  sz : t.place.size = gs.length
  mok : MaskW t.mask
  bd : ∀ y ∈ t.place.toList, y ≤ t.mask
  reach : ∀ (n : Nat) (g : Int) (y : Nat), gs[n]? = some g → t.place.toList[n]? = some y → ∃ c, way t.mask g c = y ∧ ∀ d, d < c → way t.mask g d ∈ t.place.toList
section
variable {t : SetTable} {gs : List Int}
theorem TabW.first (T : TabW t gs) (few : gs.length ≤ t.mask) (g : Int) : ∃ N, N < 10 * SetTable.turns t.mask ∧ way t.mask g N ∉ t.place.toList ∧ ∀ d, d < N → way t.mask g d ∈ t.place.toList := by
  obtain ⟨y, hy, out⟩ := st_missing t.place.toList (t.mask + 1) (by rw [Array.length_toList, T.sz]; omega)
  obtain ⟨c, hc, e⟩ := T.mok.meets g (Nat.lt_succ_iff.mp hy)
  obtain ⟨N, a1, a2, a3⟩ := st_least (p := fun c => way t.mask g c ∉ t.place.toList) c (by rw [e]; exact out)
  exact ⟨N, by omega, a2, fun d hd => Classical.not_not.mp (a3 d hd)⟩
theorem TabW.before (T : TabW t gs) {g : Int} {N n y : Nat} (out : way t.mask g N ∉ t.place.toList) (e1 : gs[n]? = some g) (e2 : t.place.toList[n]? = some y) : ∃ d, d < N ∧ way t.mask g d = y := by
  obtain ⟨c, ec, full⟩ := T.reach n g y e1 e2
  by_cases lt : c < N
  · exact ⟨c, lt, ec⟩
  · by_cases eq : c = N
    · rw [← eq, ec] at out
      exact absurd (List.mem_of_getElem? e2) out
    · exact absurd (full N (by omega)) out
theorem TabW.put (T : TabW t gs) {g : Int} {N : Nat} (out : way t.mask g N ∉ t.place.toList) (full : ∀ d, d < N → way t.mask g d ∈ t.place.toList) :
    (t.put (way t.mask g N)).2 = SetTable.below t.place (way t.mask g N) ∧ SetTable.below t.place (way t.mask g N) ≤ gs.length ∧
    TabW (t.put (way t.mask g N)).1 (gs.take (SetTable.below t.place (way t.mask g N)) ++ g :: gs.drop (SetTable.below t.place (way t.mask g N))) ∧
    (t.put (way t.mask g N)).1.mask = t.mask ∧ (t.put (way t.mask g N)).1.led = t.led ∧ (t.put (way t.mask g N)).1.plain = t.plain ∧ (t.put (way t.mask g N)).1.moves = t.moves ∧ (t.put (way t.mask g N)).1.finger = t.finger ∧
    (t.put (way t.mask g N)).1.fill = gs.length + 1 := by
  have yin := way_in t.mask g N
  obtain ⟨y, ey⟩ : ∃ y, way t.mask g N = y := ⟨_, rfl⟩
  rw [ey] at out yin ⊢
  obtain ⟨cut, _, _⟩ := below_cut T.ris y
  have lenp : t.place.toList.length = gs.length := by rw [Array.length_toList, T.sz]
  have bp : SetTable.below t.place y ≤ t.place.toList.length := by rw [Array.length_toList]; exact cut
  have bg : SetTable.below t.place y ≤ gs.length := by omega
  have notin : t.place[SetTable.below t.place y]? ≠ some y := fun z => out (List.mem_of_getElem? ((Array.getElem?_toList ..).trans z))
  have laid := put_place t y
  have many : (t.put y).1.place.size = gs.length + 1 := by rw [← Array.length_toList, laid, len_ins _ bp, lenp]
  have stays : ∀ {z : Nat}, z ∈ t.place.toList → z ∈ (t.put y).1.place.toList := fun {z} hz => by
    rw [laid]
    exact mem_ins.mpr (.inr hz)
  refine ⟨rfl, bg, ?_, rfl, rfl, rfl, rfl, rfl, ?_⟩
  · refine { ris := ris_insert T.ris notin, dm := put_dm T.dm y, sz := by rw [len_ins _ bg]; exact many, mok := T.mok, bd := fun z hz => ?_, reach := fun n h z e1 e2 => ?_ }
    · rw [laid] at hz
      rcases mem_ins.mp hz with c | c
      · rw [c]; exact yin
      · exact T.bd z c
    · rw [tins_get gs bg] at e1
      rw [laid, tins_get _ bp] at e2
      have more : ∀ {n' : Nat}, gs[n']? = some h → t.place.toList[n']? = some z → ∃ c, way t.mask h c = z ∧ ∀ d, d < c → way t.mask h d ∈ (t.put y).1.place.toList := fun q1 q2 => by
        obtain ⟨c, c1, c2⟩ := T.reach _ h z q1 q2
        exact ⟨c, c1, fun d hd => stays (c2 d hd)⟩
      by_cases lt : n < SetTable.below t.place y
      · rw [if_pos lt] at e1 e2
        exact more e1 e2
      · rw [if_neg lt] at e1 e2
        by_cases eq : n = SetTable.below t.place y
        · rw [if_pos eq] at e1 e2
          obtain rfl : g = h := Option.some.inj e1
          obtain rfl : y = z := Option.some.inj e2
          exact ⟨N, ey, fun d hd => stays (full d hd)⟩
        · rw [if_neg eq] at e1 e2
          exact more e1 e2
  · unfold SetTable.fill
    rw [many, put_dm T.dm y]
    rfl
end
/-! ### such a table laid anew -/
theorem freeW {m : Nat} (W : MaskW m) (ow : Array (Option Nat)) (g : Int) {y : Nat} (hy : y ≤ m) (fy : oAt ow y = none) :
    ∃ N, SetTable.layClean.free m ow (SetTable.turns m) (SetTable.bits g % (m + 1)) (SetTable.bits g) = some (way m g N) ∧ oAt ow (way m g N) = none ∧ ∀ d, d < N → oAt ow (way m g d) ≠ none := by
  obtain ⟨n, hn, e⟩ := W.run g hy
  obtain ⟨Z, eZ⟩ : ∃ Z, L2.off m (SetTable.bits g % (m + 1)) (SetTable.bits g) n = Z := ⟨_, rfl⟩
  have wZ : way m g Z = y := by
    rw [← eZ]
    show (nth m (runAt m (SetTable.bits g % (m + 1)) (SetTable.bits g)) (L2.off m _ _ n)).j = y
    rw [nth_off, itL_run]
    exact e
  obtain ⟨N, a1, a2, a3⟩ := st_least (p := fun c => oAt ow (way m g c) = none) Z (by rw [wZ]; exact fy)
  refine ⟨N, free_spec m ow (SetTable.turns m) n _ _ N (by show n < m + 15; omega) (by rw [eZ]; exact a1) (fun d hd => ?_) ?_, a2, a3⟩
  · cases q : oAt ow (nth m (runAt m (SetTable.bits g % (m + 1)) (SetTable.bits g)) d).j with
    | some _ => rfl
    | none => exact absurd q (a3 d hd)
  · have q : oAt ow (nth m (runAt m (SetTable.bits g % (m + 1)) (SetTable.bits g)) N).j = none := a2
    rw [q]
    rfl
theorem ownW {m : Nat} (W : MaskW m) {past : List Int} {ow : Array (Option Nat)} (O : Own m past ow) (few : past.length ≤ m) (g : Int) :
    ∃ y, SetTable.layClean.free m ow (SetTable.turns m) (SetTable.bits g % (m + 1)) (SetTable.bits g) = some y ∧ Own m (past ++ [g]) (ow.setIfInBounds y (some past.length)) := by
  obtain ⟨us, lus, all⟩ := O.ps
  obtain ⟨u, hu, nu⟩ := st_missing us (m + 1) (by omega)
  have fu : oAt ow u = none := Classical.not_not.mp fun z => nu (all u (by omega) z)
  obtain ⟨N, f1, f2, f3⟩ := freeW W ow g (Nat.lt_succ_iff.mp hu) fu
  have yin := way_in m g N
  obtain ⟨y, ey⟩ : ∃ y, way m g N = y := ⟨_, rfl⟩
  rw [ey] at f1 f2 yin
  have same := oAt_set_self (owner := ow) (some past.length) (show y < ow.size by rw [O.sz]; omega)
  have keep : ∀ {z : Nat}, oAt ow z ≠ none → oAt (ow.setIfInBounds y (some past.length)) z ≠ none := fun {z} hz => by
    by_cases c : z = y
    · rw [c, same]; simp
    · rw [oAt_set_ne _ c]; exact hz
  have lp : (past ++ [g]).length = past.length + 1 := by simp
  refine ⟨y, f1, { sz := by rw [Array.size_setIfInBounds]; exact O.sz, at_ := fun z k hz e => ?_, all := fun k hk => ?_, ps := ⟨y :: us, by rw [List.length_cons, lus, lp], fun z hz e => ?_⟩ }⟩
  · by_cases c : z = y
    · rw [c, same] at e
      obtain rfl : past.length = k := Option.some.inj e
      exact ⟨g, N, by simp, by rw [ey, c], fun d hd => keep (f3 d hd)⟩
    · rw [oAt_set_ne _ c] at e
      obtain ⟨h, d, b1, b2, b3⟩ := O.at_ z k hz e
      exact ⟨h, d, by rw [List.getElem?_append_left (List.getElem?_eq_some_iff.mp b1).1]; exact b1, b2, fun d' hd' => keep (b3 d' hd')⟩
  · by_cases c : k < past.length
    · obtain ⟨z, hz, e⟩ := O.all k c
      refine ⟨z, hz, ?_⟩
      rw [oAt_set_ne _ fun q => by rw [q, f2] at e; cases e]
      exact e
    · obtain rfl : k = past.length := by omega
      exact ⟨y, yin, same⟩
  · by_cases c : z = y
    · exact c ▸ List.mem_cons_self
    · rw [oAt_set_ne _ c] at e
      exact List.mem_cons_of_mem _ (all z hz e)
theorem foldW {m : Nat} (W : MaskW m) : ∀ (todo past : List Int) (ow : Array (Option Nat)), Own m past ow → past.length + todo.length ≤ m →
    ∃ ow', todo.foldl (stepF m) (some (ow, past.length)) = some (ow', (past ++ todo).length) ∧ Own m (past ++ todo) ow'
  | [], past, ow, O, _ => ⟨ow, by simp, by simpa using O⟩
  | g :: todo, past, ow, O, few => by
    rw [List.length_cons] at few
    obtain ⟨y, f1, O1⟩ := ownW W O (by omega) g
    obtain ⟨ow', f2, O2⟩ := foldW W todo (past ++ [g]) _ O1 (by simp; omega)
    rw [List.append_assoc, List.singleton_append] at f2 O2
    refine ⟨ow', ?_, O2⟩
    rw [List.foldl_cons, stepF_some f1, ← f2]
    simp
theorem layW {m : Nat} (W : MaskW m) {gs : Array Int} (few : gs.size ≤ m) : ∃ ow, SetTable.layClean m gs = some ow ∧ Own m gs.toList ow := by
  obtain ⟨ow, f, O⟩ := foldW W gs.toList [] _ (Own.init m) (by simpa using few)
  refine ⟨ow, ?_, by simpa using O⟩
  rw [layClean_eq, show ((0 : Nat)) = ([] : List Int).length from rfl, f]
  rfl
theorem relaidW (t : SetTable) {gs : Array Int} {wish M : Nat} (size : SetTable.sizeAbove wish - 1 = M) (W : MaskW M) (few : gs.size ≤ M) :
    ∃ t2 order, t.relaid gs wish = some (t2, order) ∧ order.toList.Perm (List.range gs.size) ∧ TabW t2 (order.toList.map fun n => gs.getD n 0) ∧ t2.mask = M ∧ t2.led = t.led ∧ t2.plain = t.plain ∧ t2.dummies = #[] := by
  obtain ⟨ow, f, O⟩ := layW W few
  obtain ⟨live, elive⟩ : ∃ live, liveOf M ow = live := ⟨_, rfl⟩
  have mem : ∀ {y k : Nat}, (y, k) ∈ live ↔ y ≤ M ∧ oAt ow y = some k := fun {y k} => by rw [← elive]; exact mem_live O.sz
  have up : Ris (live.map (·.1)) := by
    rw [← elive]
    exact (ris_live (fun y => ow.getD y none) (List.range (M + 1)) List.pairwise_lt_range).1
  have once : (live.map (·.1)).Nodup := List.Pairwise.imp (fun h => Nat.ne_of_lt h) up
  have many : live.length = gs.size := by
    refine Nat.le_antisymm ?_ ?_
    · obtain ⟨us, lus, all⟩ := O.ps
      have z := nat_nodup_len (live.map (·.1)) us once fun y hy => by
        obtain ⟨⟨y', k⟩, hq, rfl⟩ := List.mem_map.mp hy
        obtain ⟨b1, b2⟩ := mem.mp hq
        exact all y' b1 (by rw [b2]; simp)
      rw [List.length_map, lus, Array.length_toList] at z
      exact z
    · have z := nat_nodup_len (List.range gs.size) (live.map (·.2)) List.nodup_range fun k hk => by
        obtain ⟨y, b1, b2⟩ := O.all k (by rw [Array.length_toList]; exact List.mem_range.mp hk)
        exact List.mem_map.mpr ⟨(y, k), mem.mpr ⟨b1, b2⟩, rfl⟩
      rw [List.length_map, List.length_range] at z
      exact z
  have made : t.relaid gs wish = some (tabOf t M ow, (live.map (·.2)).toArray) := by
    rw [relaid_eq, size, f, ← elive]
    rfl
  have place : (tabOf t M ow).place.toList = live.map (·.1) := by rw [← elive]; rfl
  refine ⟨tabOf t M ow, (live.map (·.2)).toArray, made, ?_, ?_, rfl, rfl, rfl, rfl⟩
  · refine perm_range gs.size _ (by simpa using many) fun k hk => ?_
    obtain ⟨y, b1, b2⟩ := O.all k (by rw [Array.length_toList]; exact hk)
    exact List.mem_map.mpr ⟨(y, k), mem.mpr ⟨b1, b2⟩, rfl⟩
  · refine { ris := by rw [place]; exact up, dm := rfl, sz := by rw [← Array.length_toList, place]; simp, mok := W, bd := fun y hy => ?_, reach := fun n g y e1 e2 => ?_ }
    · rw [place] at hy
      obtain ⟨⟨y', k⟩, hq, rfl⟩ := List.mem_map.mp hy
      exact (mem.mp hq).1
    · rw [place, List.getElem?_map] at e2
      have e1' : ((live.map (·.2)).map fun n => gs.getD n 0)[n]? = some g := e1
      rw [List.getElem?_map, List.getElem?_map] at e1'
      obtain ⟨⟨y', k⟩, q, rfl⟩ := Option.map_eq_some_iff.mp e2
      rw [q] at e1'
      have eg : gs.getD k 0 = g := Option.some.inj e1'
      obtain ⟨b1, b2⟩ := mem.mp (List.mem_of_getElem? q)
      obtain ⟨h, c, c1, c2, c3⟩ := O.at_ y' k b1 b2
      have eh : gs.getD k 0 = h := by
        rw [Array.getD_eq_getD_getElem?, ← Array.getElem?_toList, c1]
        rfl
      obtain rfl : h = g := eh.symm.trans eg
      refine ⟨c, c2, fun d hd => ?_⟩
      rw [place]
      show way M h d ∈ live.map (·.1)
      cases z : oAt ow (way M h d) with
      | none => exact absurd z (c3 d hd)
      | some k2 => exact List.mem_map.mpr ⟨(way M h d, k2), mem.mpr ⟨way_in M h d, z⟩, rfl⟩
theorem size_308 : SetTable.sizeAbove (SetTable.grown 77) = 512 := by decide +kernel
/-! ### keys that are tuples of numbers, nested: what a search among them asks -/
mutual
def wordless : NestedKey → Bool
  | .none => true
  | .num _ => true
  | .text _ => false
  | .tup ks => wordlessAll ks
def wordlessAll : List NestedKey → Bool
  | [] => true
  | k :: ks => wordless k && wordlessAll ks
end
section
variable {P : Program} {w : World}
/-- v is of no class statement, n levels down -/
def Plainly (P : Program) (w : World) (n : Nat) (s : Shared) (v : Value) : Prop := ∀ (A : Around) (E : Value → Shared → Prop) (Q : Bool → Shared → Prop), Q false s → wpAny (model P w) A (ofAClassStatement n v) Q E s
/-- v's hash goes by its value -/
def ByVal (P : Program) (w : World) (n : Nat) (s : Shared) (v : Value) : Prop := ∀ (A : Around) (E : Value → Shared → Prop) (Q : Bool → Shared → Prop), Q true s → wpAny (model P w) A (hashByValue n v) Q E s
mutual
theorem plainly_key : ∀ (k : NestedKey) (v : Value) (n : Nat) (s : Shared), NestedIs s.heap k v → k.depth ≤ n → Plainly P w n s v
  | .none, _, n, s, x, _ => by
    cases x
    intro A E Q q
    have e : ofAClassStatement n .none = pure false := by cases n <;> rfl
    rw [e]
    exact wpAny_pure q
  | .num i, _, n, s, x, _ => by
    intro A E Q q
    cases x with
    | @bool b _ _ =>
      have e : ofAClassStatement n (.bool b) = pure false := by cases n <;> rfl
      rw [e]
      exact wpAny_pure q
    | int _ t =>
      have e : ofAClassStatement n (.int i t) = pure false := by cases n <;> rfl
      rw [e]
      exact wpAny_pure q
  | .text y, _, n, s, x, _ => by
    intro A E Q q
    cases x with
    | text _ t =>
      have e : ofAClassStatement n (.str y t) = pure false := by cases n <;> rfl
      rw [e]
      exact wpAny_pure q
  | .tup ks, _, n, s, x, hn => by
    intro A E Q q
    cases x with
    | @tup a o vs m _ g1 g2 g3 g4 =>
      have hn' : NestedKey.depthAll ks + 1 ≤ n := hn
      obtain ⟨n, rfl⟩ : ∃ j, n = j + 1 := ⟨n - 1, by omega⟩
      have each := plainly_keys ks vs.toList n s g4 (by omega)
      unfold ofAClassStatement
      refine wpAny_bind (wpAny_typeOf (⟨o, g1, g2⟩ : s.TypeIs (.ref a) "tuple") ?_)
      dsimp only
      have tt : (("tuple" : String) == "tuple") = true := by decide
      simp only [tt, if_true, Bool.not_true, Bool.false_eq_true, if_false]
      try refine wpAny_bind (wpAny_pure ?_)
      try simp only [Bool.not_true, Bool.false_eq_true, if_false]
      show wpAny _ _ (seqItems? (.ref a) >>= _) _ _ s
      refine wpAny_bind (wpAny_seqItems g1 g3 ?_)
      dsimp only
      refine wpAny_bind (show wpAny _ _ (forIn vs _ _) _ _ s from ?_)
      rw [← Array.forIn_toList]
      refine wpAny_forIn_list _ (fun l z s1 => z.1 = none ∧ s1 = s ∧ ∀ u ∈ l, Plainly P w n s u) _ (fun u l z s1 y => ?_) (fun z s1 y => ?_) _ _ ⟨rfl, rfl, each⟩
      · obtain ⟨_, rfl, all⟩ := y
        refine wpAny_bind (all u List.mem_cons_self _ _ _ ?_)
        simp only [Bool.false_eq_true, if_false]
        exact wpAny_pure ⟨rfl, rfl, fun v hv => all v (List.mem_cons_of_mem _ hv)⟩
      · obtain ⟨z1, z2⟩ := z
        obtain ⟨e, rfl, _⟩ := y
        simp only at e
        subst e
        exact wpAny_pure q
theorem plainly_keys : ∀ (ks : List NestedKey) (vs : List Value) (n : Nat) (s : Shared), NestedAll s.heap ks vs → NestedKey.depthAll ks ≤ n → ∀ v ∈ vs, Plainly P w n s v
  | [], _, n, s, x, _, v, hv => by cases x; cases hv
  | k :: ks, _, n, s, x, hn, v, hv => by
    cases x with
    | cons x1 x2 =>
      have hn' : max k.depth (NestedKey.depthAll ks) ≤ n := hn
      rcases List.mem_cons.mp hv with rfl | hv
      · exact plainly_key k _ n s x1 (by omega)
      · exact plainly_keys ks _ n s x2 (by omega) v hv
end
mutual
theorem byVal_key : ∀ (k : NestedKey) (v : Value) (n : Nat) (s : Shared), NestedIs s.heap k v → k.depth ≤ n → wordless k = true → ByVal P w n s v
  | .none, _, n, s, x, _, _ => by
    cases x
    intro A E Q q
    have e : hashByValue n .none = pure true := by cases n <;> rfl
    rw [e]
    exact wpAny_pure q
  | .num i, _, n, s, x, _, _ => by
    intro A E Q q
    cases x with
    | @bool b _ _ =>
      have e : hashByValue n (.bool b) = pure true := by cases n <;> rfl
      rw [e]
      exact wpAny_pure q
    | int _ t =>
      have e : hashByValue n (.int i t) = pure true := by cases n <;> rfl
      rw [e]
      exact wpAny_pure q
  | .text y, _, n, s, x, _, h => by cases h
  | .tup ks, _, n, s, x, hn, h => by
    intro A E Q q
    cases x with
    | @tup a o vs m _ g1 g2 g3 g4 =>
      have hn' : NestedKey.depthAll ks + 1 ≤ n := hn
      obtain ⟨n, rfl⟩ : ∃ j, n = j + 1 := ⟨n - 1, by omega⟩
      have each := byVal_keys ks vs.toList n s g4 (by omega) h
      unfold hashByValue
      refine wpAny_bind (wpAny_specialOf (⟨o, g1, g2⟩ : s.TypeIs (.ref a) "tuple") F.slot_tuple_hash.lookup ?_)
      show wpAny _ _ (seqItems? (.ref a) >>= _) _ _ s
      refine wpAny_bind (wpAny_seqItems g1 g3 ?_)
      dsimp only
      refine wpAny_bind (show wpAny _ _ (forIn vs _ _) _ _ s from ?_)
      rw [← Array.forIn_toList]
      refine wpAny_forIn_list _ (fun l z s1 => z.1 = none ∧ s1 = s ∧ ∀ u ∈ l, ByVal P w n s u) _ (fun u l z s1 y => ?_) (fun z s1 y => ?_) _ _ ⟨rfl, rfl, each⟩
      · obtain ⟨_, rfl, all⟩ := y
        refine wpAny_bind (all u List.mem_cons_self _ _ _ ?_)
        simp only [Bool.not_true, Bool.false_eq_true, if_false]
        exact wpAny_pure ⟨rfl, rfl, fun v hv => all v (List.mem_cons_of_mem _ hv)⟩
      · obtain ⟨z1, z2⟩ := z
        obtain ⟨e, rfl, _⟩ := y
        simp only at e
        subst e
        exact wpAny_pure q
theorem byVal_keys : ∀ (ks : List NestedKey) (vs : List Value) (n : Nat) (s : Shared), NestedAll s.heap ks vs → NestedKey.depthAll ks ≤ n → wordlessAll ks = true → ∀ v ∈ vs, ByVal P w n s v
  | [], _, n, s, x, _, _, v, hv => by cases x; cases hv
  | k :: ks, _, n, s, x, hn, h, v, hv => by
    cases x with
    | cons x1 x2 =>
      have hn' : max k.depth (NestedKey.depthAll ks) ≤ n := hn
      have h' : wordless k = true ∧ wordlessAll ks = true := by simpa only [wordlessAll, Bool.and_eq_true] using h
      rcases List.mem_cons.mp hv with rfl | hv
      · exact byVal_key k _ n s x1 (by omega) h'.1
      · exact byVal_keys ks _ n s x2 (by omega) h'.2 v hv
end
/-- at b stands the key k -/
structure KeyAt (h : Heap) (k : NestedKey) (b : Addr) : Prop where
  is : NestedIs h k (.ref b)
  low : k.depth ≤ 8
  nums : wordless k = true
theorem KeyAt.inj {h : Heap} {j k : NestedKey} {b : Addr} (x : KeyAt h j b) (y : KeyAt h k b) : j = k := NestedIs.inj _ _ _ x.is y.is
theorem KeyAt.old {g h : Heap} {k : NestedKey} {b : Addr} (x : KeyAt g k b) (st : ∀ c o, g.get? c = some o → h.get? c = some o) : KeyAt h k b := ⟨NestedIs.at (fun c o _ _ e _ => st c o e) k _ x.is, x.low, x.nums⟩
theorem KeyAt.but {a : Addr} {g h : Heap} {k : NestedKey} {b : Addr} {o : Obj} {es : Array (Int × Value)} {ep : Nat} {t : SetTable} (x : KeyAt g k b) (at1 : g.get? a = some o) (dat : o.data = .set es ep t) (sb : Heap.SameBut a g h) : KeyAt h k b :=
  ⟨NestedIs.at (fun c u vs n e1 e2 => by
    refine (sb.2 c fun z => ?_).trans e1
    rw [z, at1] at e1
    cases e1
    rw [dat] at e2
    cases e2) k _ x.is, x.low, x.nums⟩
/-- a search among such keys shows nothing -/
theorem unseen {A : Around} {E : Value → Shared → Prop} {s : Shared} {k : NestedKey} {b : Addr} {Q : Bool → Shared → Prop} (hk : KeyAt s.heap k b) {ys : List Value} (hy : ∀ y ∈ ys, ∃ j c, y = Value.ref c ∧ KeyAt s.heap j c) (q : Q false s) :
    wpAny (model P w) A (searchCouldBeSeen (.ref b) ys) Q E s := by
  unfold searchCouldBeSeen
  refine wpAny_bind (wpAny_forIn_list _ (fun l z s1 => z.1 = none ∧ s1 = s ∧ ∀ y ∈ l, ∃ j c, y = Value.ref c ∧ KeyAt s.heap j c) _ (fun u l z s1 y => ?_) (fun z s1 y => ?_) _ _ ⟨rfl, rfl, hy⟩)
  · obtain ⟨_, rfl, all⟩ := y
    obtain ⟨j, c, rfl, hc⟩ := all u List.mem_cons_self
    have more : ∀ y ∈ l, ∃ j c, y = Value.ref c ∧ KeyAt s1.heap j c := fun v hv => all v (List.mem_cons_of_mem _ hv)
    dsimp only
    cases same : (b == c || (carriedByValue (.ref b) && carriedByValue (.ref c))) with
    | true => exact wp_if_pos rfl (wpAny_pure ⟨rfl, rfl, more⟩)
    | false =>
      refine wp_if_neg (by decide) ?_
      refine wpAny_bind (quiet_key k _ 8 s1 hk.is hk.low _ _ _ ?_)
      simp only [Bool.not_true, Bool.false_eq_true, if_false]
      refine wpAny_bind (quiet_key j _ 8 s1 hc.is hc.low _ _ _ ?_)
      simp only [Bool.not_true, Bool.false_eq_true, if_false]
      refine wpAny_bind (plainly_key k _ 8 s1 hk.is hk.low _ _ _ ?_)
      simp only [Bool.false_eq_true, if_false]
      refine wpAny_bind (plainly_key j _ 8 s1 hc.is hc.low _ _ _ ?_)
      simp only [Bool.false_eq_true, if_false]
      exact wpAny_pure ⟨rfl, rfl, more⟩
  · obtain ⟨z1, z2⟩ := z
    obtain ⟨e, rfl, _⟩ := y
    simp only at e
    subst e
    exact wpAny_pure q
end
/-! ### sets of such keys: looking one up, putting one in -/
abbrev stepAt (m : Nat) (g : Int) (c : Nat) : SetTable.Probe := nth m (runAt m (SetTable.bits g % (m + 1)) (SetTable.bits g)) c
theorem stepAt_more (m : Nat) (g : Int) (c q : Nat) : nth m (stepAt m g c) q = stepAt m g (c + q) := (nth_add m c _ q).symm
theorem adv_dummy {m : Nat} {p : SetTable.Probe} (h : p.dummy = none) : (adv m p).dummy = none := by
  unfold adv
  split <;> exact h
theorem nth_dummy {m : Nat} : ∀ (c : Nat) {p : SetTable.Probe}, p.dummy = none → (nth m p c).dummy = none
  | 0, _, h => h
  | c + 1, _, h => nth_dummy c (adv_dummy h)
def rowsN (w : World) (L : List (NestedKey × Addr)) : List (Int × Value) := L.map fun p => (p.1.hash w, Value.ref p.2)
structure SetN (w : World) (h : Heap) (a : Addr) (L : List (NestedKey × Addr)) (es : Array (Int × Value)) (ep : Nat) (t : SetTable) : Prop where
  obj : ∃ o, h.get? a = some o ∧ o.ExactSet ∧ o.data = .set es ep t
  rows : es.toList = rowsN w L
  tab : TabW t (L.map fun p => p.1.hash w)
  one : (L.map Prod.fst).Nodup
  keys : ∀ p ∈ L, KeyAt h p.1 p.2
  plain : t.plain = true
  seen : w.params.followText "set-order" = true ∨ t.led = true
  room : L.length * 5 < t.mask * 3
  few : L.length < 300
section
variable {P : Program} {w : World} {A : Around} {E : Value → Shared → Prop} {s : Shared} {a : Addr} {L : List (NestedKey × Addr)} {es : Array (Int × Value)} {ep : Nat} {t : SetTable}
theorem SetN.many (R : SetN w s.heap a L es ep t) : es.size = L.length := by
  have q := congrArg List.length R.rows
  unfold rowsN at q
  simpa using q
theorem SetN.taken (R : SetN w s.heap a L es ep t) : t.place.size = L.length := by
  have q := R.tab.sz
  rwa [List.length_map] at q
theorem SetN.fit (R : SetN w s.heap a L es ep t) : t.fits es.size = true := by
  have q1 := R.taken
  have q2 := R.many
  have q3 := R.room
  have q4 : t.dummies.size = 0 := by rw [R.tab.dm]; rfl
  unfold SetTable.fits SetTable.fill
  simp only [Bool.and_eq_true, beq_iff_eq, decide_eq_true_eq]
  omega
theorem SetN.row (R : SetN w s.heap a L es ep t) {i : Nat} {p : NestedKey × Addr} (e : L[i]? = some p) : es[i]? = some (p.1.hash w, Value.ref p.2) := by
  have q : es.toList[i]? = (rowsN w L)[i]? := by rw [R.rows]
  unfold rowsN at q
  rw [List.getElem?_map, e] at q
  simpa using q
theorem SetN.stands (R : SetN w s.heap a L es ep t) : ¬ t.gaveWay = true := by
  have q := R.tab.mok.odd
  unfold SetTable.gaveWay
  rw [q]
  decide
theorem SetN.at (R : SetN w s.heap a L es ep t) {i j : Nat} (e : t.place.toList[i]? = some j) : ∃ p, L[i]? = some p := by
  have q1 := R.taken
  have q2 := (List.getElem?_eq_some_iff.mp e).1
  rw [Array.length_toList] at q2
  exact ⟨_, List.getElem?_eq_getElem (by omega)⟩
/-- looking up, from the c-th step on -/
theorem seek_from (R : SetN w s.heap a L es ep t) {x : Addr} {k : NestedKey} (hx : KeyAt s.heap k x) (hu : A.units + 8 < cLine) {N : Nat} (lim : N < 10 * SetTable.turns t.mask) (free : way t.mask (k.hash w) N ∉ t.place.toList)
    (full : ∀ c, c < N → way t.mask (k.hash w) c ∈ t.place.toList) {Q : SetFound → Shared → Prop} (yes : k ∈ L.map Prod.fst → Q (.there none) s) (no : k ∉ L.map Prod.fst → Q (.free (way t.mask (k.hash w) N) false) s) :
    ∀ (f c : Nat) (stand : Option SetTable.Probe), stand.getD (t.probeStart (k.hash w)) = stepAt t.mask (k.hash w) c → c ≤ N → N - c < f → (∀ (i : Nat) p, L[i]? = some p → p.1 = k → ∃ d, c ≤ d ∧ d < N ∧ t.place.toList[i]? = some (way t.mask (k.hash w) d)) →
      wpAny (model P w) A (setSearchFrom a (.ref x) (k.hash w) true f stand) Q E s
  | 0, c, stand, _, _, lt, _ => absurd lt (Nat.not_lt_zero _)
  | f + 1, c, stand, at0, le, lt, ahead' => by
    obtain ⟨o, at1, exact1, dat⟩ := R.obj
    rw [setSearchFrom_succ]
    refine wpAny_bind (wpAny_setState_of at1 dat R.fit ?_)
    dsimp only
    refine wp_if_neg R.stands ?_
    try refine wpAny_bind (wpAny_pure ?_)
    have jAt : ∀ q, (nth t.mask (stepAt t.mask (k.hash w) c) q).j = way t.mask (k.hash w) (c + q) := fun q => congrArg SetTable.Probe.j (stepAt_more _ _ c q)
    have hashOf : ∀ (i : Nat) p, L[i]? = some p → (fun i => (es[i]?.map (·.1)).getD 0) i = p.1.hash w := fun i p e => by
      show (es[i]?.map (·.1)).getD 0 = p.1.hash w
      rw [R.row e]
      rfl
    have told := go_spec t R.tab.ris R.tab.dm (fun i => (es[i]?.map (·.1)).getD 0) (k.hash w) (10 * SetTable.turns t.mask) (N - c) (stepAt t.mask (k.hash w) c) (nth_dummy c rfl) (by omega)
      (fun q lq => by rw [jAt]; exact full _ (by omega)) (by rw [jAt, show c + (N - c) = N by omega]; exact free)
    have asked : t.probe (fun i => (es[i]?.map (·.1)).getD 0) (k.hash w) (stand.getD (t.probeStart (k.hash w))) = SetTable.probe.go t (fun i => (es[i]?.map (·.1)).getD 0) (k.hash w) (10 * SetTable.turns t.mask) (stepAt t.mask (k.hash w) c) := by rw [at0]; rfl
    rw [asked]
    rcases told with ⟨q, i, lq, hi, hh, none', ans⟩ | ⟨none', ans⟩
    · rw [ans]
      dsimp only
      rw [jAt] at hi
      obtain ⟨p, hp⟩ := R.at hi
      have mem := List.mem_of_getElem? hp
      have live := slot_live R.tab.ris hi
      have behind' : wpAny (model P w) A (searchRest a (.ref x) (k.hash w) true f es t (way t.mask (k.hash w) (c + q)) i (nth t.mask (stepAt t.mask (k.hash w) c) (q + 1))) Q E s := by
        unfold searchRest
        rw [R.row hp]
        dsimp only
        refine wpAny_bind (wpAny_holding (eqAt_key p.1 k A s _ _ (R.keys p mem).is hx.is (by have := hx.low; omega) _ _ _ _ ?_))
        refine wpAny_bind (wpAny_setState_of at1 dat R.fit ?_)
        dsimp only
        by_cases pk : p.1 = k
        · have b1 : NestedKey.beq p.1 k = true := by rw [pk]; exact NestedKey.beq_self k
          refine wp_if_pos (by rw [b1]; rfl) (wpAny_pure (yes ?_))
          exact List.mem_map.mpr ⟨p, mem, pk⟩
        · have b1 : NestedKey.beq p.1 k = false := by
            cases z : NestedKey.beq p.1 k with
            | false => rfl
            | true => exact absurd (NestedKey.eq_of_beq _ _ z) pk
          refine wp_if_neg (by rw [b1]; decide) ?_
          try refine wpAny_bind (wpAny_pure ?_)
          rw [sameMem]
          dsimp only
          simp only [if_true, live, R.row hp]
          refine wpAny_bind (wpAny_isSame_ref_self (wpAny_bind (wpAny_pure ?_)))
          simp only [if_true]
          refine wp_if_neg (by rw [b1]; decide) ?_
          rw [stepAt_more]
          refine seek_from R hx hu lim free full yes no f (c + (q + 1)) _ rfl (by omega) (by omega) fun i0 p0 e0 pk0 => ?_
          obtain ⟨d, d1, d2, d3⟩ := ahead' i0 p0 e0 pk0
          refine ⟨d, ?_, d2, d3⟩
          by_cases dl : d < c + q
          · refine absurd ((hashOf i0 p0 e0).trans (by rw [pk0])) (none' (d - c) i0 (by omega) ?_)
            rw [jAt, show c + (d - c) = d by omega]
            exact d3
          · by_cases de : d = c + q
            · rw [de] at d3
              have z := slot_live R.tab.ris d3
              rw [live] at z
              injection z with z
              rw [← z, hp] at e0
              exact absurd ((congrArg Prod.fst (Option.some.inj e0)).trans pk0) pk
            · omega
      rw [jAt]
      by_cases hl : t.led = true
      · refine wp_if_neg (by rw [hl]; decide) ?_
        try refine wpAny_bind (wpAny_pure ?_)
        exact behind'
      · refine wp_if_pos (by simp [hl]) ?_
        refine wpAny_bind (unseen hx (fun y hy => ?_) ?_)
        · obtain ⟨e, he, rfl⟩ := List.mem_map.mp hy
          have h1 : e ∈ es.toList := by
            have h0 := he
            simp at h0
            simpa using h0.1
          rw [R.rows] at h1
          obtain ⟨p2, h2, rfl⟩ := List.mem_map.mp h1
          exact ⟨p2.1, p2.2, rfl, R.keys p2 h2⟩
        · refine wp_if_neg (by decide) ?_
          try refine wpAny_bind (wpAny_pure ?_)
          exact behind'
    · rw [ans]
      dsimp only
      rw [jAt, show c + (N - c) = N by omega]
      refine wpAny_pure (no fun hm => ?_)
      obtain ⟨p0, h0, pk0⟩ := List.mem_map.mp hm
      obtain ⟨i0, e0⟩ := List.mem_iff_getElem?.mp h0
      obtain ⟨d, d1, d2, d3⟩ := ahead' i0 p0 e0 pk0
      refine absurd ((hashOf i0 p0 e0).trans (by rw [pk0])) (none' (d - c) i0 (by omega) ?_)
      rw [jAt, show c + (d - c) = d by omega]
      exact d3
/-- looking up, as putting in does -/
theorem seek (R : SetN w s.heap a L es ep t) {x : Addr} {k : NestedKey} (hx : KeyAt s.heap k x) (hu : A.units + 8 < cLine) {Q : SetFound → Shared → Prop} (yes : k ∈ L.map Prod.fst → Q (.there none) s)
    (no : ∀ N, k ∉ L.map Prod.fst → way t.mask (k.hash w) N ∉ t.place.toList → (∀ c, c < N → way t.mask (k.hash w) c ∈ t.place.toList) → Q (.free (way t.mask (k.hash w) N) false) s) :
    wpAny (model P w) A (setSearch a (.ref x) (k.hash w) true) Q E s := by
  have ro := R.room
  obtain ⟨N, lim, free, full⟩ := R.tab.first (by rw [List.length_map]; omega) (k.hash w)
  have small : N < 100000 := by
    refine Nat.lt_of_lt_of_le lim ?_
    unfold SetTable.turns
    rcases R.tab.mok with e | e | e | e <;> rw [e] <;> decide
  unfold setSearch
  refine seek_from R hx hu lim free full yes (fun n => no N n free full) 100000 0 none rfl (Nat.zero_le _) (by omega) fun i p e pk => ?_
  have e1 : (L.map fun p => p.1.hash w)[i]? = some (k.hash w) := by rw [List.getElem?_map, e, ← pk]; rfl
  have tk := R.taken
  have li := (List.getElem?_eq_some_iff.mp e).1
  obtain ⟨j, e2⟩ : ∃ j, t.place.toList[i]? = some j := ⟨_, List.getElem?_eq_getElem (by rw [Array.length_toList]; omega)⟩
  obtain ⟨c, c1, c2⟩ := R.tab.before free e1 e2
  exact ⟨c, Nat.zero_le _, c1, by rw [e2, c2]⟩
end
/-! ### sets of such keys: one put in, the table laid anew -/
theorem picked {α β : Type} {g : Nat → Option α} {f : α → β} {d : Nat → β} : ∀ {l : List Nat}, (∀ i ∈ l, (g i).map f = some (d i)) → (l.filterMap g).map f = l.map d
  | [], _ => rfl
  | i :: l, h => by
    have h0 := h i List.mem_cons_self
    cases e : g i with
    | none => rw [e] at h0; cases h0
    | some x =>
      rw [e] at h0
      rw [List.filterMap_cons_some e, List.map_cons, List.map_cons, picked fun j hj => h j (List.mem_cons_of_mem _ hj), Option.some.inj h0]
theorem pick_all {α : Type} (L : List α) : ∀ n, n ≤ L.length → (List.range n).filterMap (fun i => L[i]?) = L.take n
  | 0, _ => rfl
  | n + 1, h => by
    rw [List.range_succ, List.filterMap_append, pick_all L n (by omega), List.take_add_one]
    congr 1
theorem rowsN_at {w : World} {L : List (NestedKey × Addr)} {es : Array (Int × Value)} (e : es.toList = rowsN w L) (i : Nat) : es[i]? = L[i]?.map fun p => (p.1.hash w, Value.ref p.2) := by
  have q : es.toList[i]? = (rowsN w L)[i]? := by rw [e]
  unfold rowsN at q
  rw [List.getElem?_map, Array.getElem?_toList] at q
  exact q
theorem rowsN_len {w : World} {L : List (NestedKey × Addr)} {es : Array (Int × Value)} (e : es.toList = rowsN w L) : es.size = L.length := by
  have q := congrArg List.length e
  unfold rowsN at q
  simpa using q
theorem reorder {w : World} {L : List (NestedKey × Addr)} {es : Array (Int × Value)} {order : Array Nat} (e : es.toList = rowsN w L) (pm : order.toList.Perm (List.range L.length)) :
    ∃ M, (order.filterMap (es[·]?)).toList = rowsN w M ∧ M.Perm L ∧ (M.map fun p => p.1.hash w) = order.toList.map fun i => (es.map (·.1)).getD i 0 := by
  refine ⟨order.toList.filterMap fun i => L[i]?, ?_, ?_, picked fun i hi => ?_⟩
  · have q : (order.filterMap (es[·]?)).toList = order.toList.filterMap fun i => es[i]? := by simp
    rw [q]
    unfold rowsN
    rw [List.map_filterMap]
    congr 1
    funext i
    exact rowsN_at e i
  · have q := pm.filterMap fun i => L[i]?
    rwa [pick_all L L.length (Nat.le_refl _), List.take_length] at q
  · have li : i < L.length := List.mem_range.mp (pm.mem_iff.mp hi)
    have q : (es.map (·.1))[i]? = some (L[i].1.hash w) := by
      rw [Array.getElem?_map, rowsN_at e, List.getElem?_eq_getElem li]
      rfl
    rw [List.getElem?_eq_getElem li, Array.getD_eq_getD_getElem?, q]
    rfl
section
variable {P : Program} {w : World} {A : Around} {E : Value → Shared → Prop} {s : Shared} {a : Addr} {L : List (NestedKey × Addr)} {es : Array (Int × Value)} {ep : Nat} {t : SetTable}
theorem lay_anew {o : Obj} (at1 : s.heap.get? a = some o) (exact1 : o.ExactSet) (dat : o.data = .set es ep t) (rows : es.toList = rowsN w L) (taken : t.place.size = es.size) (dm : t.dummies = #[]) (fits : es.size ≤ t.mask)
    (one : (L.map Prod.fst).Nodup) (keys : ∀ p ∈ L, KeyAt s.heap p.1 p.2) (pl : t.plain = true) (seen : w.params.followText "set-order" = true ∨ t.led = true) (few : L.length < 300) {wanted M : Nat}
    (size : SetTable.sizeAbove wanted - 1 = M) (mok : MaskW M) (top : SetTable.sizeAbove wanted ≤ 512) (room : L.length * 5 < M * 3) {Q : Unit → Shared → Prop}
    (q : ∀ h' L' es' ep' t', Heap.SameBut a s.heap h' → SetN w h' a L' es' ep' t' → L'.Perm L → Q () { s with heap := h' }) : wpAny (model P w) A (setRelay a wanted) Q E s := by
  have many := rowsN_len rows
  have fit : t.fits es.size = true := by
    have q4 : t.dummies.size = 0 := by rw [dm]; rfl
    unfold SetTable.fits SetTable.fill
    simp only [Bool.and_eq_true, beq_iff_eq, decide_eq_true_eq]
    omega
  obtain ⟨t2, order, e1, pm, T, em, el, epl, ed⟩ := relaidW t (gs := es.map (·.1)) (wish := wanted) size mok (by rw [Array.size_map, many]; omega)
  rw [Array.size_map, many] at pm
  obtain ⟨M2, r1, r2, r3⟩ := reorder rows pm
  rw [← r3] at T
  have many2 : (order.filterMap (es[·]?)).size = es.size := by rw [rowsN_len r1, r2.length_eq, many]
  rw [setRelay_eq]
  refine wpAny_bind (wpAny_setState_of at1 dat fit ?_)
  dsimp only
  refine wp_if_neg (by rw [sizeLine_eq]; omega) ?_
  try refine wpAny_bind (wpAny_pure ?_)
  rw [e1]
  dsimp only
  refine wpAny_bind (wp_if_neg (by rw [many2]; simp) ?_)
  try refine wpAny_bind (wpAny_pure ?_)
  refine wpAny_pure ?_
  dsimp only
  refine wpAny_storeSet_of at1 dat ?_ (by rw [many2, many, sizeLine_eq]; omega)
  have sb : Heap.SameBut a s.heap (s.heap.update a (Obj.putSet (order.filterMap (es[·]?)) t2)) := Heap.SameBut.update ..
  exact q _ M2 (order.filterMap (es[·]?)) (ep + 1) t2 sb ⟨⟨_, store_at at1 dat, ⟨exact1.1, exact1.2.1, exact1.2.2⟩, rfl⟩, r1, T, (r2.map Prod.fst).nodup_iff.mpr one, fun p hp => (keys p (r2.mem_iff.mp hp)).but at1 dat sb, by rw [epl]; exact pl,
    by rw [el]; exact seen, by rw [r2.length_eq, em]; exact room, by rw [r2.length_eq]; exact few⟩ r2
theorem put_in (R : SetN w s.heap a L es ep t) {x : Addr} {k : NestedKey} (hx : KeyAt s.heap k x) (hu : A.units + 8 < cLine) (more : L.length + 1 < 300) {Q : Bool → Shared → Prop}
    (q : ∀ b h' L' es' ep' t', Heap.SameBut a s.heap h' → SetN w h' a L' es' ep' t' → (k ∈ L.map Prod.fst → L' = L) → (k ∉ L.map Prod.fst → L'.Perm ((k, x) :: L)) → Q b { s with heap := h' }) :
    wpAny (model P w) A (setAddHashed a (.ref x) (k.hash w)) Q E s := by
  obtain ⟨o, at1, exact1, dat⟩ := R.obj
  have many := R.many
  have room := R.room
  unfold setAddHashed
  refine wpAny_holding ?_
  rw [show (100000 : Nat) = 99999 + 1 from rfl, setAddHashedIn_succ]
  refine wpAny_bind (wpAny_setState_of at1 dat R.fit ?_)
  dsimp only
  refine wp_if_neg (by simp [byScan, Value.scannable]) ?_
  try refine wpAny_bind (wpAny_pure ?_)
  refine wpAny_bind (seek R hx hu (fun hm => ?_) fun N hm free full => ?_)
  · dsimp only
    exact wpAny_pure (q false s.heap L es ep t (Heap.SameBut.refl a s.heap) R (fun _ => rfl) fun z => absurd hm z)
  dsimp only
  refine wpAny_bind (wpAny_setState_of at1 dat R.fit ?_)
  dsimp only
  obtain ⟨p1, p2, p3, p4, p5, p6, p7, p8, p9⟩ := R.tab.put free full
  have pl1 : (t.put (way t.mask (k.hash w) N)).1.plain = true := by rw [p6]; exact R.plain
  generalize t.put (way t.mask (k.hash w) N) = both at p1 p3 p4 p5 p6 p7 p8 p9 pl1 ⊢
  obtain ⟨t1, at2⟩ := both
  dsimp only at p1 p3 p4 p5 p6 p7 p8 p9 pl1 ⊢
  subst p1
  first
    | (refine wpAny_bind (wp_if_pos pl1 ?_); refine byVal_key k _ 8 s hx.is hx.low hx.nums _ _ _ ?_)
    | refine wp_if_pos pl1 (wpAny_bind (byVal_key k _ 8 s hx.is hx.low hx.nums _ _ _ ?_))
  simp only [if_true]
  generalize SetTable.below t.place (way t.mask (k.hash w) N) = b at p2 p3 ⊢
  have rows1 : (SetTable.insertAt es b (k.hash w, Value.ref x)).toList = rowsN w (L.take b ++ (k, x) :: L.drop b) := by
    rw [SetTable.toList_insertAt, R.rows]
    unfold rowsN
    rw [List.map_append, List.map_cons, List.map_take, List.map_drop]
  have pm : (L.take b ++ (k, x) :: L.drop b).Perm ((k, x) :: L) := by
    have z : (L.take b ++ (k, x) :: L.drop b).Perm ((k, x) :: (L.take b ++ L.drop b)) := List.perm_middle
    rwa [List.take_append_drop] at z
  have hashes1 : (L.take b ++ (k, x) :: L.drop b).map (fun p => p.1.hash w) = (L.map fun p => p.1.hash w).take b ++ k.hash w :: (L.map fun p => p.1.hash w).drop b := by
    rw [List.map_append, List.map_cons, List.map_take, List.map_drop]
  rw [← hashes1] at p3
  have one1 : ((L.take b ++ (k, x) :: L.drop b).map Prod.fst).Nodup := (pm.map Prod.fst).nodup_iff.mpr (List.nodup_cons.mpr ⟨hm, R.one⟩)
  have many1 := rowsN_len rows1
  have len1 := pm.length_eq
  rw [List.length_cons] at len1
  generalize SetTable.insertAt es b (k.hash w, Value.ref x) = es1 at rows1 many1 ⊢
  generalize L.take b ++ (k, x) :: L.drop b = L1 at pm rows1 p3 one1 many1 len1
  refine wpAny_bind (wpAny_storeSet_of at1 dat ?_ (by rw [many1, sizeLine_eq]; omega))
  have sb : Heap.SameBut a s.heap (s.heap.update a (Obj.putSet es1 t1)) := Heap.SameBut.update ..
  have at3 := store_at (es' := es1) (t' := t1) at1 dat
  generalize s.heap.update a (Obj.putSet es1 t1) = g at sb at3 ⊢
  have keys1 : ∀ p ∈ L1, KeyAt g p.1 p.2 := fun p hp => by
    rcases List.mem_cons.mp (pm.mem_iff.mp hp) with rfl | hp
    · exact hx.but at1 dat sb
    · exact (R.keys p hp).but at1 dat sb
  have seen1 : w.params.followText "set-order" = true ∨ t1.led = true := by rw [p5]; exact R.seen
  have fill1 := p9
  rw [List.length_map] at fill1
  have taken1 := p3.sz
  rw [List.length_map] at taken1
  cases full1 : t1.tooFull with
  | true =>
    first
      | refine wpAny_bind (wp_if_pos (by simp) ?_)
      | refine wp_if_pos (by simp) (wpAny_bind ?_)
    have over : (L.length + 1) * 5 ≥ t1.mask * 3 := by
      have z := full1
      unfold SetTable.tooFull at z
      rw [decide_eq_true_eq, fill1] at z
      exact z
    rw [many]
    have anew : ∀ M, SetTable.sizeAbove (SetTable.grown (L.length + 1)) - 1 = M → MaskW M → SetTable.sizeAbove (SetTable.grown (L.length + 1)) ≤ 512 → (L.length + 1) * 5 < M * 3 → es1.size ≤ t1.mask →
        wpAny (model P w) A (setRelay a (SetTable.grown (L.length + 1))) (fun _ s' => wpAny (model P w) A (pure true) Q E s') E { s with heap := g } := fun M z1 z2 z3 z4 z5 =>
      lay_anew (s := { s with heap := g }) at3 ⟨exact1.1, exact1.2.1, exact1.2.2⟩ rfl rows1 (by omega) p3.dm z5 one1 keys1 pl1 seen1 (by omega) z1 z2 z3 (by rw [len1]; exact z4) fun h2 L2 es2 ep2 t2 sb2 R2 pm2 =>
        wpAny_pure (q true h2 L2 es2 ep2 t2 (sb.trans sb2) R2 (fun z => absurd z hm) fun _ => pm2.trans pm)
    have which : (t.mask = 7 ∧ L.length = 4) ∨ (t.mask = 31 ∧ L.length = 18) ∨ (t.mask = 127 ∧ L.length = 76) := by
      rcases R.tab.mok with e | e | e | e
      · rw [p4, e] at over
        rw [e] at room
        exact .inl ⟨e, by omega⟩
      · rw [p4, e] at over
        rw [e] at room
        exact .inr (.inl ⟨e, by omega⟩)
      · rw [p4, e] at over
        rw [e] at room
        exact .inr (.inr ⟨e, by omega⟩)
      · rw [p4, e] at over
        omega
    rcases which with ⟨e1, e2⟩ | ⟨e1, e2⟩ | ⟨e1, e2⟩
    · exact anew 31 (by rw [e2, size_20]) (.inr (.inl rfl)) (by rw [e2, size_20]; decide) (by omega) (by omega)
    · exact anew 127 (by rw [e2, size_76]) (.inr (.inr (.inl rfl))) (by rw [e2, size_76]; decide) (by omega) (by omega)
    · exact anew 511 (by rw [e2, size_308]) (.inr (.inr (.inr rfl))) (by rw [e2, size_308]; decide) (by omega) (by omega)
  | false =>
    first
      | refine wp_if_neg (by simp) ?_
      | refine wpAny_bind (wp_if_neg (by simp) (wpAny_pure ?_))
    refine wpAny_pure (q true g L1 es1 (ep + 1) t1 sb ⟨⟨_, at3, ⟨exact1.1, exact1.2.1, exact1.2.2⟩, rfl⟩, rows1, p3, one1, keys1, pl1, seen1, ?_, by omega⟩ (fun z => absurd z hm) fun _ => pm)
    have z := full1
    unfold SetTable.tooFull at z
    rw [decide_eq_false_iff_not, fill1] at z
    omega
end
/-! ### set(list of such keys) -/
/-- what has come of the first i -/
structure GotN (ks : List (NestedKey × Addr)) (i : Nat) (L : List (NestedKey × Addr)) : Prop where
  sub : ∀ p ∈ L, p ∈ ks.take i
  all : ∀ p ∈ ks.take i, p.1 ∈ L.map Prod.fst
  len : L.length ≤ i
theorem take_more {α : Type} {l : List α} {i : Nat} {x : α} (h : l[i]? = some x) : l.take (i + 1) = l.take i ++ [x] := by
  rw [List.take_add_one, h]
  rfl
theorem GotN.next {ks L M : List (NestedKey × Addr)} {i : Nat} {x : NestedKey × Addr} (g : GotN ks i L) (h : ks[i]? = some x) (same : x.1 ∈ L.map Prod.fst → M = L) (new : x.1 ∉ L.map Prod.fst → M.Perm (x :: L)) : GotN ks (i + 1) M := by
  have tm := take_more h
  rcases Classical.em (x.1 ∈ L.map Prod.fst) with c | c
  · rw [same c]
    refine ⟨fun p hp => ?_, fun p hp => ?_, Nat.le_succ_of_le g.len⟩
    · rw [tm]
      exact List.mem_append.mpr (.inl (g.sub p hp))
    · rw [tm] at hp
      rcases List.mem_append.mp hp with z | z
      · exact g.all p z
      · rw [List.mem_singleton.mp z]
        exact c
  · have pm := new c
    refine ⟨fun p hp => ?_, fun p hp => ?_, ?_⟩
    · rw [tm]
      rcases List.mem_cons.mp (pm.mem_iff.mp hp) with z | z
      · exact List.mem_append.mpr (.inr (List.mem_singleton.mpr z))
      · exact List.mem_append.mpr (.inl (g.sub p z))
    · rw [(pm.map Prod.fst).mem_iff, List.map_cons, List.mem_cons]
      rw [tm] at hp
      rcases List.mem_append.mp hp with z | z
      · exact .inr (g.all p z)
      · exact .inl (by rw [List.mem_singleton.mp z])
    · have z := pm.length_eq
      have y := g.len
      rw [List.length_cons] at z
      omega
section
variable {P : Program} {w : World} {A : Around} {E : Value → Shared → Prop} {s : Shared}
theorem SetN.move {g h : Heap} {a : Addr} {L : List (NestedKey × Addr)} {es : Array (Int × Value)} {ep : Nat} {t : SetTable} (R : SetN w g a L es ep t) (ha : ∀ o, g.get? a = some o → h.get? a = some o) (keys : ∀ p ∈ L, KeyAt h p.1 p.2) : SetN w h a L es ep t := by
  obtain ⟨o, at1, z⟩ := R.obj
  exact { R with obj := ⟨o, ha o at1, z⟩, keys := keys }
theorem setN_new {h : Heap} {a : Addr} (e : h.get? a = some (noneYet w)) : SetN w h a [] #[] 0 (.fresh 0 0 (!w.params.followText "set-order")) where
  obj := ⟨_, e, ⟨rfl, rfl, rfl⟩, rfl⟩
  rows := rfl
  tab := { ris := List.Pairwise.nil, dm := rfl, sz := rfl, mok := .inl rfl, bd := fun x hx => (by cases hx), reach := fun i h j hi => (by simp at hi) }
  one := List.nodup_nil
  keys := fun p hp => (by cases hp)
  plain := rfl
  seen := by
    show _ ∨ (!w.params.followText "set-order") = true
    cases w.params.followText "set-order"
    · exact .inr rfl
    · exact .inl rfl
  room := by
    show 0 * 5 < 7 * 3
    decide
  few := Nat.zero_lt_succ _
theorem update_keys {I : Addr} {fp wr : List Addr} {G : Array GenState → Array GenState → Prop} {n : Nat} {Pv : Nat → Value → Prop} {St : Nat → Shared → Prop} {R : Result → Shared → Prop}
    (W : WalksS P w A.in1 I fp wr G n Pv St) (S : Addr) (apart : S ∉ fp) (ks : List (NestedKey × Addr)) (hn : n = ks.length) (few : ∀ M : List (NestedKey × Addr), (M.map Prod.fst).Nodup → (∀ p ∈ M, p ∈ ks) → M.length < 299) (vals : ∀ i v, Pv i v → ∃ p, ks[i]? = some p ∧ v = .ref p.2)
    (h0 : Heap) (keys : ∀ p ∈ ks, KeyAt h0 p.1 p.2) (newS : h0.get? S = none) (newW : ∀ b ∈ wr, h0.get? b = none) (hu : A.in1.units + 8 < cLine) :
    ∀ (d i : Nat) (s : Shared), n - i = d → i ≤ n → St i s → (∀ b o, h0.get? b = some o → s.heap.get? b = some o) → (∃ L es ep t, SetN w s.heap S L es ep t ∧ GotN ks i L) →
      (∀ s' L es ep t, Moved (S :: wr) G s s' → SetN w s'.heap S L es ep t → GotN ks n L → (∀ b o, h0.get? b = some o → s'.heap.get? b = some o) → R (.ok (.ret .none)) s') →
      codeAny (model P w) A (.builtin "set.update.loop" ⟨[.ref S, .ref I], []⟩) R s := by
  have outW : S ∉ wr := fun z => apart (W.sub _ z)
  have inW : ∀ b ∈ wr, b ∈ S :: wr := fun b z => List.mem_cons_of_mem _ z
  have olds : ∀ {s s' : Shared}, Moved wr G s s' → (∀ b o, h0.get? b = some o → s.heap.get? b = some o) → ∀ b o, h0.get? b = some o → s'.heap.get? b = some o := fun mv old b o e =>
    mv.heap b o (fun z => by rw [newW b z] at e; cases e) (old b o e)
  intro d
  induction d with
  | zero =>
    intro i s hd le st old ⟨L, es, ep, t, hS, got⟩ hR
    obtain rfl : i = n := by omega
    refine codeAny_builtin F.entry_set_update_loop ?_
    rw [Around.under_plainId F.plain_set_update_loop _]
    show wpAny _ A.in1 (pyNext (.ref I) >>= _) _ _ s
    refine wpAny_bind (W.done s _ _ st fun s' mv => ?_)
    show wpAny _ A.in1 (ret Value.none) _ _ s'
    have old' := olds mv old
    exact wpAny_pure (hR s' L es ep t (mv.mono inW) (hS.move (fun o e => mv.heap S o outW e) fun p hp => (keys p (List.mem_of_mem_take (got.sub p hp))).old old') got old')
  | succ d ih =>
    intro i s hd le st old ⟨L, es, ep, t, hS, got⟩ hR
    have lt : i < n := by omega
    refine codeAny_builtin F.entry_set_update_loop ?_
    rw [Around.under_plainId F.plain_set_update_loop _]
    show wpAny _ A.in1 (pyNext (.ref I) >>= _) _ _ s
    refine wpAny_bind (W.item i s _ _ lt st fun v s' hv st' mv => ?_)
    obtain ⟨p, hp, rfl⟩ := vals i v hv
    have old' := olds mv old
    have hS' : SetN w s'.heap S L es ep t := hS.move (fun o e => mv.heap S o outW e) fun q hq => (keys q (List.mem_of_mem_take (got.sub q hq))).old old'
    have hx : KeyAt s'.heap p.1 p.2 := (keys p (List.mem_of_getElem? hp)).old old'
    show wpAny _ A.in1 (holding [Value.ref p.2] (setAdd S (.ref p.2)) >>= _) _ _ s'
    refine wpAny_bind (wpAny_holding ?_)
    unfold setAdd
    refine wpAny_holding ?_
    refine wpAny_bind (pyHash_key p.1 _ _ _ _ hx.is (by have := hx.low; omega) ?_)
    refine put_in (s := { s' with toks := s'.toks + p.1.draws }) hS' hx hu (by have := few L hS'.one fun q hq => List.mem_of_mem_take (got.sub q hq); omega) fun b h' L' es' ep' t' sb hS2 c1 c2 => ?_
    have old2 : ∀ b o, h0.get? b = some o → h'.get? b = some o := fun b o e => (sb.2 b (fun z => by rw [z, newS] at e; cases e)).trans (old' b o e)
    refine wpAny_pure ⟨plainId_quiet F.plain_set_update_loop _, ih (i + 1) _ (by omega) lt (W.frame _ s' _ _ st' (Nat.le_add_right _ _) fun b hb o e => ?_) old2 ⟨L', es', ep', t', hS2, got.next hp c1 c2⟩ fun s3 L3 es3 ep3 t3 mv3 hS3 got3 old3 => ?_⟩
    · rw [sb.2 b fun z => apart (z ▸ hb)]
      exact e
    · refine hR s3 L3 es3 ep3 t3 (Moved.trans W.gtrans ((mv.mono inW).then_heap (Nat.le_add_right _ _) fun b o hb e => ?_) mv3) hS3 got3 old3
      rw [sb.2 b fun z => hb (by rw [z]; exact List.mem_cons_self)]
      exact e
theorem set_of_keys {src : Addr} {vals : Array Value} (ks : List (NestedKey × Addr)) {Q : Value → Shared → Prop} (calm : A.handled = none) (isL : s.heap.IsList src vals) (are : vals.toList = ks.map fun p => Value.ref p.2)
    (keys : ∀ p ∈ ks, KeyAt s.heap p.1 p.2) (few : ∀ M : List (NestedKey × Addr), (M.map Prod.fst).Nodup → (∀ p ∈ M, p ∈ ks) → M.length < 299) (hu : A.units + 11 < cLine)
    (fin : ∀ (g : Heap) (tk : Nat) L es ep t, SetN w g s.heap.objs.size L es ep t → GotN ks ks.length L → (∀ b o, s.heap.get? b = some o → g.get? b = some o) → Q (.ref s.heap.objs.size) { s with heap := g, toks := tk }) :
    wpAny (model P w) A (call (.type "set") [.ref src]) Q E s := by
  have many : vals.size = ks.length := by
    have z := congrArg List.length are
    simpa using z
  obtain ⟨cc, cl, ho⟩ := F.called_set.mro
  have ⟨m1, m2, m3, m4⟩ := And.intro F.called_set.made (And.intro F.called_set.sub (And.intro F.called_set.notType F.called_set.canCreate))
  have m5 := F.typeCall_set_1 (Value.ref src)
  refine wpAny_call (codeAny_of_tree (show wpAny _ _ (callAny (.type "set") _) _ _ _ from ?_))
  refine wpAny_pure (And.intro (Code.quiet_builtin _ (by decide +kernel)) (codeAny_builtin F.entry_type_call ?_))
  rw [Around.under_plain (weight_type_call_type "set" [Value.ref src] []) rfl]
  repeat (any_goals (first | assumption | wp_step))
  refine codeAny_mono (code_set_led1 (Value.ref src) (E := E) (Q₁ := fun u t => u = .ref s.heap.objs.size ∧ t = { s with heap := s.heap.push (noneYet w) }) (And.intro rfl rfl)) fun r1 t1 z1 => ?_
  cases r1 with
  | error _ => exact z1
  | ok f1 =>
  cases f1 with
  | next => exact z1.elim
  | brk => exact z1.elim
  | cont => exact z1.elim
  | ret u =>
  obtain ⟨rfl, rfl⟩ := z1
  have at0 : (s.heap.push (noneYet w)).get? s.heap.objs.size = some (noneYet w) := Heap.get?_push_size _ rfl
  have ty0 : Shared.TypeIs { s with heap := s.heap.push (noneYet w) } (.ref s.heap.objs.size) "set" := ⟨_, at0, rfl⟩
  have n1 := F.called_set.init.lookup
  have n2 := F.called_set.init.bind (Value.ref s.heap.objs.size)
  repeat (any_goals (first | assumption | wp_step))
  refine codeAny_mono (codeAny_call_builtin (R := wants (fun r t => r = .none ∧ ∃ (g : Heap) (tk : Nat) (L : List (NestedKey × Addr)) (es : Array (Int × Value)) (ep : Nat) (tb : SetTable), t = { s with heap := g, toks := tk } ∧ SetN w g s.heap.objs.size L es ep tb ∧ GotN ks ks.length L ∧ (∀ b o, s.heap.get? b = some o → g.get? b = some o)) E)
    F.called_set.init.plain F.entry_set_init (check_set_init_1 ty0 ?_)) fun r2 t2 z2 => ?_
  · obtain ⟨⟨lc, ld, lx, ls⟩, at1, k1, len, k2⟩ := isL
    simp only at k1 k2
    subst k1 k2
    have at2 : (s.heap.push (noneYet w)).get? src = some { cls := .type "list", dict := ld, data := .seq vals len, slots := ls } := Heap.get?_push_of_some _ at1
    have o1 := F.sub_list_set
    have o2 := F.sub_list_frozenset
    have o3 : (Value.type "list" == Value.type "dict") = false := by decide
    have isL2 : (s.heap.push (noneYet w)).IsList src vals := ⟨_, at2, rfl, len, rfl⟩
    unfold Builtin.«set.__init__» noKeywords Builtin.Frozenset.updateFrom
    generalize keep : pyIter = PI
    wp_walk
    subst keep
    refine wpAny_pyIter_list isL2 (wpAny_bind (wpAny_runValue ?_))
    have lt := Heap.lt_size at1
    have sz : (s.heap.push (noneYet w)).objs.size = s.heap.objs.size + 1 := Heap.size_push ..
    have calm3 : A.in1.in1.in1.handled = none := by simp only [Around.in1, calm]
    have apart : src ≠ (s.heap.push (noneYet w)).objs.size := fun z => by
      rw [z, sz] at lt
      exact absurd lt (Nat.not_lt_of_le (Nat.le_succ _))
    have out : s.heap.objs.size ∉ [(s.heap.push (noneYet w)).objs.size, src] := fun z => by
      rcases List.mem_cons.mp z with z | z
      · rw [sz] at z
        exact absurd z (Nat.ne_of_lt (Nat.lt_succ_self _))
      · rw [List.mem_singleton.mp z] at lt
        exact Nat.lt_irrefl _ lt
    have each : ∀ (i : Nat) (v : Value), vals[i]? = some v → ∃ p, ks[i]? = some p ∧ v = .ref p.2 := fun i v hv => by
      have z : vals.toList[i]? = some v := by rw [Array.getElem?_toList]; exact hv
      rw [are, List.getElem?_map] at z
      obtain ⟨p, e1, e2⟩ := Option.map_eq_some_iff.mp z
      exact ⟨p, e1, e2.symm⟩
    have fresh : ∀ b, s.heap.objs.size ≤ b → s.heap.get? b = none := fun b hb => by
      cases e : s.heap.get? b with
      | none => rfl
      | some o => exact absurd (Heap.lt_size e) (Nat.not_lt_of_le hb)
    refine update_keys (Walks.list calm3 _ src apart vals).toS s.heap.objs.size out ks many few each s.heap keys (fresh _ (Nat.le_refl _)) (fun b hb => fresh b (by rw [List.mem_singleton.mp hb, sz]; exact Nat.le_succ _)) (by simp only [Around.in1_units]; omega) (vals.size - 0) 0 _ rfl (Nat.zero_le _) ⟨⟨_, Heap.get?_push_size _ rfl, rfl, rfl⟩, isL2.push _⟩
      (fun b o e => Heap.get?_push_of_some _ (Heap.get?_push_of_some _ e)) ⟨[], #[], 0, _, setN_new (Heap.get?_push_of_some _ at0), ⟨fun p hp => (nomatch hp), fun p hp => (by simp at hp), Nat.le_refl _⟩⟩ fun t L es ep tb mv Rt got old => ?_
    obtain ⟨g, gg, dd, tk, os⟩ := t
    obtain rfl : gg = s.gens := mv.gens
    obtain rfl : dd = s.drawn := mv.drawn
    obtain rfl : os = s.os := mv.os
    show wpAny _ _ _ _ _ _
    refine wpAny_pure (show wpAny _ _ (ret Value.none) _ _ _ from wpAny_pure ⟨rfl, g, tk, L, es, ep, tb, rfl, Rt, many ▸ got, old⟩)
  · cases r2 with
    | error _ => exact z2
    | ok f2 =>
    cases f2 with
    | next => exact z2.elim
    | brk => exact z2.elim
    | cont => exact z2.elim
    | ret _ =>
    obtain ⟨rfl, g, tk, L, es, ep, tb, rfl, Rt, got, old⟩ := z2
    repeat (any_goals (first | assumption | wp_step))
    exact fin g tk L es ep tb Rt got old
end
/-! ### sorted(list of alike data) -/
section
variable {X : Cx}
open PySem.W PySem.Calls
theorem each_of {K : PySem.W.Frag} {H : Hp} : ∀ {xs : List V} {us : List Value} {ds : List PyData}, Vals xs us → DpAll K H xs ds → EachIs (fun (u : Value) (d : PyData) => ∃ x, RelV x u ∧ Dp K H x d) us ds
  | [], _, _, .nil, .nil => .nil
  | _ :: _, _, _, .cons a t, .cons b u => .cons ⟨_, a, b⟩ (each_of t u)
theorem each_back {K : PySem.W.Frag} {H : Hp} : ∀ {us : List Value} {ds : List PyData}, EachIs (fun (u : Value) (d : PyData) => ∃ x, RelV x u ∧ Dp K H x d) us ds → ∃ ys, Vals ys us ∧ DpAll K H ys ds
  | [], _, .nil => ⟨[], .nil, .nil⟩
  | _ :: _, _, .cons ⟨x, a, b⟩ t => by
    obtain ⟨ys, h1, h2⟩ := each_back t
    exact ⟨x :: ys, .cons a h1, .cons b h2⟩
def rSortD (K : PySem.W.Frag) : List V → Hp → VK → Prop := fun vs H Q => ∃ (l : Addr) (xs : List V) (ds : List PyData), vs = [V.ref l] ∧ SqL K H l xs ∧ DpAll K H xs ds ∧ AllAlike ds ∧ Sortable ds ∧ (∀ d ∈ ds, d.depth ≤ 50) ∧
  ∀ (p : Addr) (ys : List V), ys.length = ds.length → DpAll K H ys (ds.mergeSort (dataLe false id)) → H p = none → Q (.ref p) (upd H p (.lst ys))
theorem cr_sortD (hu : X.A.units + 64 < cLine) : CallR X (.builtin "sorted") (rSortD X.K) := by
  intro pins s σ H vs us Q I r h
  obtain ⟨l, xs, ds, rfl, hs, hd, al, so, dp, q⟩ := h
  obtain ⟨its, rv, hl, hz⟩ := I.list hs
  rw [Vals.ref1 r]
  have e := each_of rv hd
  have ld := dpAll_len hd
  refine sorted_data (enc := id) hl.isList e (e.mono fun u d ⟨x, rx, dx⟩ => Dp.reads I d x u dx rx) (by rw [List.map_id]; exact al) (by rw [List.map_id]; exact so) (by omega) (fun d hd' => by have := dp d hd'; show X.A.units + 2 + d.depth < cLine; omega) fun out ho eo => ?_
  obtain ⟨ys, hys, hyd⟩ := each_back eo
  obtain ⟨ep, he'⟩ := PyProof.Rows.sortedAll_at s.heap its out.toArray
  have ly : ys.length = ds.length := by rw [hys.length, ho]
  exact ⟨.ref _, upd H (s.heap.objs.size + 1) (.lst ys), I.laid (t' := s.toks) (fun _ _ => PyProof.Rows.sortedAll_old) (Nat.le_succ _) ⟨by omega, out, ep, hys, he'⟩, rfl, q _ ys ly hyd (I.hok.fresh (Nat.le_succ _))⟩
end
/-! ### such keys as data: set(..) and sorted(..) in a frame -/
mutual
def isKeyD : PyData → Bool
  | .int _ => true
  | .none => true
  | .tuple ds => isKeyDs ds
  | _ => false
def isKeyDs : List PyData → Bool
  | [] => true
  | d :: ds => isKeyD d && isKeyDs ds
end
mutual
def keyOf : PyData → NestedKey
  | .int i => .num i
  | .tuple ds => .tup (keysOf ds)
  | _ => .none
def keysOf : List PyData → List NestedKey
  | [] => []
  | d :: ds => keyOf d :: keysOf ds
end
mutual
theorem keyOf_low : ∀ d : PyData, (keyOf d).depth ≤ d.depth
  | .int i => Nat.le_refl _
  | .tuple ds => by
    have z := keysOf_low ds
    simp only [keyOf, NestedKey.depth, PyData.depth]
    omega
  | .none => Nat.zero_le _
  | .bool _ => Nat.zero_le _
  | .str _ => Nat.zero_le _
  | .list _ => Nat.zero_le _
  | .dict _ => Nat.zero_le _
theorem keysOf_low : ∀ ds : List PyData, NestedKey.depthAll (keysOf ds) ≤ PyData.depthAll ds
  | [] => Nat.le_refl _
  | d :: ds => by
    have y := keyOf_low d
    have z := keysOf_low ds
    simp only [keysOf, NestedKey.depthAll, PyData.depthAll]
    omega
end
mutual
theorem keyOf_nums : ∀ d : PyData, wordless (keyOf d) = true
  | .int i => rfl
  | .tuple ds => by simp only [keyOf, wordless]; exact keysOf_nums ds
  | .none => rfl
  | .bool _ => rfl
  | .str _ => rfl
  | .list _ => rfl
  | .dict _ => rfl
theorem keysOf_nums : ∀ ds : List PyData, wordlessAll (keysOf ds) = true
  | [] => rfl
  | d :: ds => by simp only [keysOf, wordlessAll, keyOf_nums d, keysOf_nums ds, Bool.and_self]
end
mutual
theorem keyOf_inj : ∀ d e : PyData, isKeyD d = true → isKeyD e = true → keyOf d = keyOf e → d = e
  | .int i, e, _, h, q => by
    cases e with
    | int j =>
      simp only [keyOf] at q
      injection q with q
      rw [q]
    | tuple es => simp only [keyOf] at q; cases q
    | none => simp only [keyOf] at q; cases q
    | _ => cases h
  | .tuple ds, e, k, h, q => by
    cases e with
    | int j => simp only [keyOf] at q; cases q
    | tuple es =>
      simp only [keyOf] at q
      injection q with q
      rw [keysOf_inj ds es k h q]
    | none => simp only [keyOf] at q; cases q
    | _ => cases h
  | .none, e, _, h, q => by
    cases e with
    | none => rfl
    | int j => simp only [keyOf] at q; cases q
    | tuple es => simp only [keyOf] at q; cases q
    | _ => cases h
  | .bool _, _, k, _, _ => by cases k
  | .str _, _, k, _, _ => by cases k
  | .list _, _, k, _, _ => by cases k
  | .dict _, _, k, _, _ => by cases k
theorem keysOf_inj : ∀ ds es : List PyData, isKeyDs ds = true → isKeyDs es = true → keysOf ds = keysOf es → ds = es
  | [], [], _, _, _ => rfl
  | [], e :: es, _, _, q => by simp only [keysOf] at q; cases q
  | d :: ds, [], _, _, q => by simp only [keysOf] at q; cases q
  | d :: ds, e :: es, k, h, q => by
    simp only [keysOf] at q
    injection q with q1 q2
    simp only [isKeyDs, Bool.and_eq_true] at k h
    rw [keyOf_inj d e k.1 h.1 q1, keysOf_inj ds es k.2 h.2 q2]
end
section
variable {X : Cx} {pins : List (Addr × Obj)} {σ : L2.St} {H : Hp} {s : Shared}
mutual
theorem is_key (I : Inv X pins σ H s) : ∀ (d : PyData) (x : V) (v : Value), isKeyD d = true → Dp X.K H x d → RelV x v → NestedIs s.heap (keyOf d) v ∧ Reads s.heap v d []
  | .int i, _, v, _, h, r => by
    cases h
    obtain ⟨t, rfl⟩ := r
    exact ⟨.int _ _, .int _ _⟩
  | .tuple ds, _, v, k, h, r => by
    cases h with
    | tup h1 h2 =>
      obtain ⟨its, rv, ⟨o, ho, hc, n, hd⟩, _⟩ := I.tuple h1
      cases r
      obtain ⟨a1, a2⟩ := are_keys I ds _ its k h2 rv
      exact ⟨.tup ho hc hd (by simpa using a1), .tuple ho hc hd (by simpa using a2)⟩
  | .none, _, _, _, h, r => by
    cases h
    cases r
    exact ⟨.none, .none⟩
  | .bool _, _, _, k, _, _ => by cases k
  | .str _, _, _, k, _, _ => by cases k
  | .list _, _, _, k, _, _ => by cases k
  | .dict _, _, _, k, _, _ => by cases k
theorem are_keys (I : Inv X pins σ H s) : ∀ (ds : List PyData) (xs : List V) (vs : List Value), isKeyDs ds = true → DpAll X.K H xs ds → Vals xs vs → NestedAll s.heap (keysOf ds) vs ∧ ReadsAll s.heap vs ds []
  | [], _, _, _, .nil, .nil => ⟨.nil, .nil⟩
  | d :: ds, _, _, k, .cons h hs, .cons r rs => by
    simp only [isKeyDs, Bool.and_eq_true] at k
    obtain ⟨a1, a2⟩ := is_key I d _ _ k.1 h r
    obtain ⟨b1, b2⟩ := are_keys I ds _ _ k.2 hs rs
    exact ⟨.cons a1 b1, .cons (as := []) (bs := []) a2 b2⟩
end
theorem key_at (I : Inv X pins σ H s) {d : PyData} {b : Addr} (k : isKeyD d = true) (low : d.depth ≤ 8) (h : Dp X.K H (.ref b) d) : KeyAt s.heap (keyOf d) b :=
  ⟨(is_key I d _ (.ref b) k h rfl).1, Nat.le_trans (keyOf_low d) low, keyOf_nums d⟩
end
abbrev asKeys (L : List (PyData × Addr)) : List (NestedKey × Addr) := L.map fun p => (keyOf p.1, p.2)
/-- the set at a, but for its items -/
structure SetK (w : World) (h : Heap) (a : Addr) (L : List (PyData × Addr)) : Prop where
  ex : ∃ (es : Array (Int × Value)) (ep : Nat) (t : SetTable), (∃ o, h.get? a = some o ∧ o.ExactSet ∧ o.data = .set es ep t) ∧ es.toList = rowsN w (asKeys L) ∧ TabW t ((asKeys L).map fun p => p.1.hash w) ∧ ((asKeys L).map Prod.fst).Nodup ∧ t.plain = true ∧
    (w.params.followText "set-order" = true ∨ t.led = true) ∧ (asKeys L).length * 5 < t.mask * 3 ∧ (asKeys L).length < 300
def SetKO (w : World) (a : Addr) (L : List (PyData × Addr)) : HO := .ext fun h => SetK w h a L
theorem SetN.k {w : World} {h : Heap} {a : Addr} {L : List (PyData × Addr)} {es : Array (Int × Value)} {ep : Nat} {t : SetTable} (R : SetN w h a (asKeys L) es ep t) : SetK w h a L := ⟨es, ep, t, R.obj, R.rows, R.tab, R.one, R.plain, R.seen, R.room, R.few⟩
theorem SetK.n {w : World} {h : Heap} {a : Addr} {L : List (PyData × Addr)} (R : SetK w h a L) (keys : ∀ p ∈ asKeys L, KeyAt h p.1 p.2) : ∃ es ep t, SetN w h a (asKeys L) es ep t := by
  obtain ⟨es, ep, t, q1, q2, q3, q4, q5, q6, q7, q8⟩ := R.ex
  exact ⟨es, ep, t, q1, q2, q3, q4, keys, q5, q6, q7, q8⟩
theorem setKO_new {P : Program} {w : World} {H : Hp} {h : Heap} {a : Addr} {L : List (PyData × Addr)} (R : SetK w h a L) : ObjOk P w H h a (SetKO w a L) := by
  have ⟨_, _, _, ⟨o, at1, _⟩, _⟩ := R.ex
  refine ⟨R, ⟨o, at1⟩, fun h1 h2 p k => ?_⟩
  have ⟨es, ep, t, ⟨u, at2, q1⟩, q2⟩ := SetK.ex p
  exact ⟨es, ep, t, ⟨u, k u at2, q1⟩, q2⟩
theorem perm_lift {α β : Type} {f : α → β} : ∀ {vs : List β} {L : List α}, vs.Perm (L.map f) → ∃ M : List α, M.Perm L ∧ vs = M.map f
  | [], L, h => by
    have z := h.length_eq
    cases L with
    | nil => exact ⟨[], .nil, rfl⟩
    | cons _ _ => simp at z
  | v :: vs, L, h => by
    obtain ⟨x, hx, rfl⟩ := List.mem_map.mp (h.mem_iff.mp List.mem_cons_self)
    obtain ⟨l1, l2, rfl⟩ := List.append_of_mem hx
    have z : (f x :: vs).Perm (f x :: (l1 ++ l2).map f) := by
      refine h.trans ?_
      rw [List.map_append, List.map_cons, List.map_append]
      exact List.perm_middle
    obtain ⟨M, pm, e⟩ := perm_lift (List.perm_cons _ |>.mp z)
    exact ⟨x :: M, (pm.cons x).trans List.perm_middle.symm, by rw [e]; rfl⟩
theorem hu64 {A : Around} {k : Nat} (hr : Room k A) : A.units + 64 < cLine := Nat.lt_of_succ_lt (hu65 hr)
section
variable {X : Cx}
open PySem.W PySem.Calls
/-- set(xs): xs a list of such tuples, of which few are unlike -/
def rSetW (K : PySem.W.Frag) (w : World) : List V → Hp → VK → Prop := fun xs H Q => ∃ (l : Addr) (ks : List (PyData × Addr)), xs = [V.ref l] ∧ SqL K H l (ks.map fun p => V.ref p.2) ∧ (∀ p ∈ ks, isKeyD p.1 = true ∧ p.1.depth ≤ 8 ∧ Dp K H (.ref p.2) p.1) ∧
  (∀ D : List PyData, D.Nodup → (∀ d ∈ D, d ∈ ks.map Prod.fst) → D.length < 299) ∧
  ∀ a L, H a = none → (∀ p ∈ L, p ∈ ks) → (∀ p ∈ ks, p.1 ∈ L.map Prod.fst) → (L.map Prod.fst).Nodup → L.length ≤ ks.length → Q (.ref a) (upd H a (SetKO w a L))
/-- set(xs): xs a short list of such tuples -/
def rSetK (K : PySem.W.Frag) (w : World) : List V → Hp → VK → Prop := fun xs H Q => ∃ (l : Addr) (ks : List (PyData × Addr)), xs = [V.ref l] ∧ SqL K H l (ks.map fun p => V.ref p.2) ∧ (∀ p ∈ ks, isKeyD p.1 = true ∧ p.1.depth ≤ 8 ∧ Dp K H (.ref p.2) p.1) ∧ ks.length < 299 ∧
  ∀ a L, H a = none → (∀ p ∈ L, p ∈ ks) → (∀ p ∈ ks, p.1 ∈ L.map Prod.fst) → (L.map Prod.fst).Nodup → L.length ≤ ks.length → Q (.ref a) (upd H a (SetKO w a L))
theorem asKeys_part {ks : List (PyData × Addr)} : ∀ {L : List (NestedKey × Addr)}, (∀ p ∈ L, p ∈ asKeys ks) → ∃ M : List (PyData × Addr), (∀ p ∈ M, p ∈ ks) ∧ L = asKeys M
  | [], _ => ⟨[], fun p hp => absurd hp List.not_mem_nil, rfl⟩
  | p :: L, h => by
    obtain ⟨u, h1, h2⟩ := List.mem_map.mp (h p List.mem_cons_self)
    obtain ⟨M, h3, h4⟩ := asKeys_part (ks := ks) fun x hx => h x (List.mem_cons_of_mem _ hx)
    refine ⟨u :: M, fun y hy => ?_, by rw [← h2, h4]; rfl⟩
    rcases List.mem_cons.mp hy with rfl | hy
    · exact h1
    · exact h3 y hy
theorem data_once {M : List (PyData × Addr)} (h : ((asKeys M).map Prod.fst).Nodup) : (M.map Prod.fst).Nodup := by
  rw [List.map_map] at h
  have y : (M.map fun p => keyOf p.1).Nodup := h
  rw [show (fun p : PyData × Addr => keyOf p.1) = keyOf ∘ Prod.fst from rfl, ← List.map_map] at y
  exact List.Pairwise.of_map keyOf (fun _ _ ne e => ne (congrArg keyOf e)) y
theorem refs_are : ∀ {ks : List (PyData × Addr)} {us : List Value}, Vals (ks.map fun p => V.ref p.2) us → us = ks.map fun p => Value.ref p.2
  | [], _, .nil => rfl
  | p :: ks, _, .cons r t => by
    cases r
    rw [refs_are t]
    rfl
theorem cr_setW (hc : X.calm = true) (hu : X.A.units + 64 < cLine) : CallR X (.type "set") (rSetW X.K X.w) := by
  intro pins s σ H xs us Q I r h
  obtain ⟨l, ks, rfl, hl, hk, few, q⟩ := h
  rw [Vals.ref1 r]
  obtain ⟨its, rv, pl, _⟩ := I.list hl
  refine set_of_keys (asKeys ks) (I.ok.hd hc) pl.isList (by rw [List.map_map]; exact refs_are rv) (fun p hp => ?_) (fun M nd sub => ?_) (by omega) fun g tk L es ep t R got old => ?_
  · obtain ⟨u, hu', rfl⟩ := List.mem_map.mp hp
    exact key_at I (hk u hu').1 (hk u hu').2.1 (hk u hu').2.2
  · obtain ⟨N, hN, rfl⟩ := asKeys_part sub
    have z := few (N.map Prod.fst) (data_once nd) fun d hd => by
      obtain ⟨p, hp, rfl⟩ := List.mem_map.mp hd
      exact List.mem_map.mpr ⟨p, hN p hp, rfl⟩
    rw [List.length_map] at z ⊢
    exact z
  · have sub : ∀ p ∈ L, ∃ u ∈ ks, p = (keyOf u.1, u.2) := fun p hp => by
      obtain ⟨u, h1, h2⟩ := List.mem_map.mp (List.mem_of_mem_take (got.sub p hp))
      exact ⟨u, h1, h2.symm⟩
    obtain ⟨M, hM, rfl⟩ : ∃ M : List (PyData × Addr), (∀ p ∈ M, p ∈ ks) ∧ L = asKeys M := by
      clear R got
      induction L with
      | nil => exact ⟨[], fun p hp => absurd hp List.not_mem_nil, rfl⟩
      | cons p L ih =>
        obtain ⟨u, h1, h2⟩ := sub p List.mem_cons_self
        obtain ⟨M, h3, h4⟩ := ih fun x hx => sub x (List.mem_cons_of_mem _ hx)
        refine ⟨u :: M, fun y hy => ?_, by rw [h2, h4]; rfl⟩
        rcases List.mem_cons.mp hy with rfl | hy
        · exact h1
        · exact h3 y hy
    refine ⟨.ref _, _, I.laid (t' := tk) old (Nat.le_refl _) (setKO_new R.k), rfl, q _ M (I.hok.fresh (Nat.le_refl _)) hM (fun p hp => ?_) ?_ (by have z := got.len; rw [List.length_map, List.length_map] at z; exact z)⟩
    · have z := got.all (keyOf p.1, p.2) (by rw [List.take_length]; exact List.mem_map.mpr ⟨p, hp, rfl⟩)
      obtain ⟨y, hy, e⟩ := List.mem_map.mp z
      obtain ⟨u, h1, rfl⟩ := List.mem_map.mp hy
      exact List.mem_map.mpr ⟨u, h1, keyOf_inj _ _ (hk u (hM u h1)).1 (hk p hp).1 e⟩
    · have z := R.one
      rw [List.map_map] at z
      have y : (M.map fun p => keyOf p.1).Nodup := z
      rw [show (fun p : PyData × Addr => keyOf p.1) = keyOf ∘ Prod.fst from rfl, ← List.map_map] at y
      exact List.Pairwise.of_map keyOf (fun _ _ ne e => ne (congrArg keyOf e)) y
theorem cr_setK (hc : X.calm = true) (hu : X.A.units + 64 < cLine) : CallR X (.type "set") (rSetK X.K X.w) := by
  intro pins s σ H xs us Q I r h
  obtain ⟨l, ks, e, hl, hk, few, q⟩ := h
  refine cr_setW hc hu pins s σ H xs us Q I r ⟨l, ks, e, hl, hk, fun D nd sub => ?_, q⟩
  have z := List.Nodup.length_le_of_subset nd (l₂ := ks.map Prod.fst) fun d hd => sub d hd
  rw [List.length_map] at z
  omega
/-- sorted(set) -/
def rSortedK (K : PySem.W.Frag) (w : World) : List V → Hp → VK → Prop := fun vs H Q => ∃ (a : Addr) (L : List (PyData × Addr)), vs = [V.ref a] ∧ H a = some (SetKO w a L) ∧ (∀ p ∈ L, isKeyD p.1 = true ∧ p.1.depth ≤ 8 ∧ Dp K H (.ref p.2) p.1) ∧ AllAlike (L.map Prod.fst) ∧ Sortable (L.map Prod.fst) ∧
  ∀ (M : List (PyData × Addr)) (ys : List V) (p : Addr), M.Perm L → ys.length = M.length → DpAll K H ys ((M.map Prod.fst).mergeSort (dataLe false id)) → H p = none → Q (.ref p) (upd H p (.lst ys))
theorem cr_sortedK (hc : X.calm = true) (hu : X.A.units + 64 < cLine) : CallR X (.builtin "sorted") (rSortedK X.K X.w) := by
  intro pins s σ H vs0 us Q I r h
  obtain ⟨a, L, rfl, ha, hk, al, so, q⟩ := h
  obtain ⟨es, ep, t, R⟩ := SetK.n (I.hok a _ ha).1 fun p hp => by
    obtain ⟨u, h1, rfl⟩ := List.mem_map.mp hp
    exact key_at I (hk u h1).1 (hk u h1).2.1 (hk u h1).2.2
  rw [Vals.ref1 r]
  obtain ⟨o, at1, exact1, dat⟩ := R.obj
  have many := R.many
  have few := R.few
  refine Calls.call_function_entry kind_sorted plain_sorted entry_sorted (args_sorted1 _) ?_
  unfold Builtin.«sorted»
  refine wpAny_bind (m := checkCount "sorted" 1 1 _) (wpAny_pure ?_)
  refine wpAny_bind (collect_set (A := X.A.in1) (I.ok.hd hc) ⟨o, at1, exact1.1, dat⟩ R.fit (by unfold scanBound; omega) R.tab.ris R.seen fun s1 vs old grew g1 o1 pm => ?_)
  have items : es.toList.map (·.2) = L.map fun p => Value.ref p.2 := by
    rw [R.rows]
    unfold rowsN
    rw [List.map_map, List.map_map]
    rfl
  rw [items] at pm
  obtain ⟨M, pmM, rfl⟩ := perm_lift pm
  have lenM : M.length < 300 := by
    have z := pmM.length_eq
    rw [List.length_map] at few
    omega
  refine wpAny_bind (wpAny_newList ?_ (by rw [List.length_map, sizeLine_eq]; omega))
  have at2 : (s1.heap.push (seqObj "list" (M.map fun p => Value.ref p.2).toArray 0)).get? s1.heap.objs.size = some (seqObj "list" (M.map fun p => Value.ref p.2).toArray 0) := Heap.get?_push_size _ rfl
  have e1 : EachIs (fun (u : Value) (d : PyData) => ∃ x, RelV x u ∧ Dp X.K H x d) (M.map fun p => Value.ref p.2) (M.map Prod.fst) := by
    have z : ∀ p ∈ M, p ∈ L := fun p hp => pmM.mem_iff.mp hp
    clear pm pmM at2 lenM
    induction M with
    | nil => exact .nil
    | cons p M ih => exact .cons ⟨.ref p.2, rfl, (hk p (z p List.mem_cons_self)).2.2⟩ (ih fun x hx => z x (List.mem_cons_of_mem _ hx))
  have e2 : EachIs (fun (v : Value) (d : PyData) => ∃ as, Reads (s1.heap.push (seqObj "list" (M.map fun p => Value.ref p.2).toArray 0)) v (id d) as ∧ s1.heap.objs.size ∉ as) (M.map fun p => Value.ref p.2) (M.map Prod.fst) := by
    have z : ∀ p ∈ M, p ∈ L := fun p hp => pmM.mem_iff.mp hp
    clear pm pmM at2 lenM e1
    generalize seqObj "list" (M.map fun p => Value.ref p.2).toArray 0 = new
    induction M with
    | nil => exact .nil
    | cons p M ih =>
      refine .cons ⟨[], PyProof.Rows.Reads.keeps (fun b u e => Heap.get?_push_of_some _ (old b u e)) (is_key I p.1 _ (.ref p.2) (hk p (z p List.mem_cons_self)).1 (hk p (z p List.mem_cons_self)).2.2 rfl).2, fun z => nomatch z⟩ (ih fun x hx => z x (List.mem_cons_of_mem _ hx))
  have pmD := pmM.map Prod.fst
  have al2 : AllAlike (M.map Prod.fst) := fun x hx y hy => al x (pmD.mem_iff.mp hx) y (pmD.mem_iff.mp hy)
  have so2 : Sortable (M.map Prod.fst) := so.imp (fun h d hd => h d (pmD.mem_iff.mp hd)) fun h d hd => h d (pmD.mem_iff.mp hd)
  refine wpAny_bind (wpAny_holding (list_sort_data (enc := id) (s := { s1 with heap := s1.heap.push (seqObj "list" (M.map fun p => Value.ref p.2).toArray 0) }) at2 e1 e2 (by rw [List.map_id]; exact al2) (by rw [List.map_id]; exact so2) (by rw [List.length_map, sizeLine_eq]; omega) (fun d hd => ?_) fun out ho eo => ?_))
  · obtain ⟨u, h1, rfl⟩ := List.mem_map.mp hd
    have z := (hk u (pmM.mem_iff.mp h1)).2.1
    show X.A.in1.units + 1 + u.1.depth < cLine
    rw [Around.in1_units]
    omega
  · obtain ⟨c, at3⟩ := sortedHeap_at (vs := M.map fun p => Value.ref p.2) (out := out.toArray) at2
    obtain ⟨ys, hys, hyd⟩ := each_back eo
    have ly : ys.length = M.length := by rw [hys.length, ho, List.length_map]
    have fresh : H s1.heap.objs.size = none := I.hok.fresh grew
    have old2 : ∀ b u, s.heap.get? b = some u → (sortedHeap (s1.heap.push (seqObj "list" (M.map fun p => Value.ref p.2).toArray 0)) s1.heap.objs.size (M.map fun p => Value.ref p.2) out.toArray).get? b = some u := fun b u e => by
      have z := old b u e
      have lt := Heap.lt_size z
      rw [sortedHeap_old (Nat.ne_of_lt lt) (by rw [size_push']; exact Nat.lt_succ_of_lt lt)]
      exact Heap.get?_push_of_some _ z
    refine wpAny_pure ⟨_, rfl, ?_⟩
    show EP X pins σ Q (Value.ref s1.heap.objs.size) { s1 with heap := sortedHeap (s1.heap.push (seqObj "list" (M.map fun p => Value.ref p.2).toArray 0)) s1.heap.objs.size (M.map fun p => Value.ref p.2) out.toArray }
    generalize sortedHeap (s1.heap.push (seqObj "list" (M.map fun p => Value.ref p.2).toArray 0)) s1.heap.objs.size (M.map fun p => Value.ref p.2) out.toArray = g2 at at3 old2
    have hlen : ys.length ≤ sizeLine := by rw [ly, sizeLine_eq]; omega
    have J : Inv X pins σ (upd H s1.heap.objs.size (.lst ys)) { s with heap := g2, gens := s1.gens, drawn := s1.drawn, toks := s1.toks } :=
      I.call (ch := []) (Un.laid old2 grew fresh) (I.hok.laid old2 grew ⟨hlen, out, c, hys, at3⟩) (by rw [g1]; exact I.bare) (fun _ z => nomatch z)
    have e : ({ s1 with heap := g2 } : Shared) = { s with heap := g2, gens := s1.gens, drawn := s1.drawn, toks := s1.toks } := by rw [← o1]
    rw [e]
    exact ⟨.ref _, _, J, rfl, q M ys _ pmM ly hyd fresh⟩
end
/-! ### a comprehension's loop, whatever stands within -/
section
variable {J : It} {n : Nat} {G : Hp → Prop} {Y : Nat → Hp → V → Hp → Prop}
theorem turns_it (wk : Walk J n G Y) {Body : V → Hp → (Hp → Prop) → Prop} {H0 : Hp} {Qe : Hp → Prop} (R : Nat → Hp → Prop) (r0 : R 0 H0) (rG : ∀ k L, k ≤ n → R k L → G L)
    (rs : ∀ k v L L', k < n → R k L → Y k L v L' → Body v L' (R (k + 1))) (re : ∀ L, R n L → Qe L) :
    ∃ W : Nat → Nat → Hp → Prop, (∃ m, W 0 m H0) ∧ ∀ k m L, W k m L → (J.stop k L ∧ Qe L) ∨ (J.go k L ∧ ∃ Nx : Hp → Prop, (∀ L', Nx L' → ∃ m', m' < m ∧ W (k + 1) m' L') ∧ ∀ v L', J.yld k L v L' → Body v L' Nx) := by
  refine ⟨fun k m L => k + m = n ∧ R k L, ⟨n, Nat.zero_add n, r0⟩, fun k m L ⟨e, p⟩ => ?_⟩
  have g := rG k L (by omega) p
  cases m with
  | zero =>
    obtain rfl : k = n := e
    exact .inl ⟨wk.stops L g, re L p⟩
  | succ m => exact .inr ⟨wk.goes k L (by omega) g, R (k + 1), fun L' p' => ⟨m, Nat.lt_succ_self m, by omega, p'⟩, fun v L' y => rs k v L L' (by omega) p (wk.yields k L v L' (by omega) g y)⟩
end
section
variable {X : Cx}
theorem pe_revTK (K : PySem.W.Frag) (hK : X.K = K) {e : Expr} {te : TE} {k : Nat} {p1 p2 p3 pos : Pos} (he : PE X e te) : PE X (.Subscript e (.Slice none none (some (.UnaryOp .USub (.Constant (.int 1) k p1) p2)) p3) pos) (tBackT K te) := hK ▸ pe_revT he
end
/-! ### a generator expression over a range; elements of a longer row and a number -/
theorem over_rng {X : Cx} {s1 : Shared} {r T : Addr} {lo hi : Int} {ta tb tc : Tok} {ps : Array Value} (calm : X.A.handled = none) (hr : IsRange s1.heap r lo hi 1 ta tb tc) (sm : Builtin.Range.small lo hi 1 = true) (hT : s1.heap.get? T = some { cls := .none, data := .fields ps }) :
    OverOk X (.ref r) s1 (hi - lo).toNat (fun i v => ∃ t, v = .int (lo + (i : Nat) * 1) t) T := by
  have tT : s1.heap.objs.size ≠ T := fun z => Nat.lt_irrefl _ (z ▸ Heap.lt_size hT)
  have hn : Builtin.Range.rangeSize lo hi 1 = ((hi - lo).toNat : Int) := by
    rw [rangeSize_one]
    split <;> omega
  refine ⟨{ cls := .type "range_iterator", data := .fields #[rawInt lo, rawInt (Builtin.Range.rangeSize lo hi 1), rawInt 1] }, [s1.heap.objs.size], fun i h => IsRangeIter h s1.heap.objs.size (lo + (i : Nat) * 1) (((hi - lo).toNat : Int) - (i : Nat)) 1, fun Q E q => wpAny_pyIter_range hr sm q, fun A' hA => Walks.range hA s1.heap.objs.size lo 1 _, fun b hb => by rw [List.mem_singleton.mp hb]; exact Nat.le_refl _, fun h' k => ?_, fun i h st => ⟨_, st⟩⟩
  show IsRangeIter h' s1.heap.objs.size (lo + ((0 : Nat) : Int) * 1) (((hi - lo).toNat : Int) - ((0 : Nat) : Int)) 1
  have z1 : lo + ((0 : Nat) : Int) * 1 = lo := by simp
  have z2 : ((hi - lo).toNat : Int) - ((0 : Nat) : Int) = ((hi - lo).toNat : Int) := by simp
  rw [z1, z2, ← hn]
  exact k _ _ tT (Heap.get?_push_size _ rfl)
section
variable {P : Program} {w : World} {A : Around} {env : Env} {s : Shared} {a b c : Expr}
theorem gv_if {i j u v : Int} {pos p2 : Pos} (ha : GV P w A env s a (IsI i)) (hb : GV P w A env s b (IsI j)) {x y : Expr} (hx : GV P w A env s x (IsI u)) (hy : GV P w A env s y (IsI v)) (hm : behindInMarks .Eq b = false := by with_unfolding_all rfl) :
    GV P w A env s (.IfExp (.Compare a [.Eq] [b] p2) x y pos) (IsI (if i = j then u else v)) := fun E s1 k => by
  refine wpAny_IfExp (wpAny_isTrue_Compare1 (wpAny_mono (ha E s1 k) (fun z s2 ⟨⟨t, e⟩, k2⟩ => wpAny_mono (hb E s2 k2) (fun z' s3 ⟨⟨t', e'⟩, k3⟩ => ?_) fun _ _ h => h) fun _ _ h => h) hm)
  subst e
  subst e'
  refine eq_int (wpAny_truthy_bool ?_)
  by_cases q : i = j
  · rw [if_pos q]
    have e : (i == j) = true := beq_iff_eq.mpr q
    rw [e]
    exact hx E s3 k3
  · rw [if_neg q]
    have e : (i == j) = false := beq_eq_false_iff_ne.mpr q
    rw [e]
    exact hy E s3 k3
theorem gm_turn {j u : Int} {t : Addr} {its : List Value} {k1 k2 : Nat} {p1 p2 p3 : Pos} (ha : GV P w A env s a (IsI j)) (hb : ∀ s', PySem.Keeps s s' → GV P w A env s' b (· = .ref t)) (ht : IsTup s.heap t its.toArray) (few : its.length < 1000) (hc : ∀ s', PySem.Keeps s s' → GV P w A env s' c (IsI u))
    (st1 : starEach [a] env = (false, eval a env) :: starEach [] env := by rfl)
    (st2 : starEach [Expr.BinOp (.Tuple [a] k1 p1) .Add b p2, c] env = (false, eval (Expr.BinOp (.Tuple [a] k1 p1) .Add b p2) env) :: (false, eval c env) :: starEach [] env := by rfl) (E : Value → Shared → Prop) :
    wpAny (model P w) A (eval (.Tuple [.BinOp (.Tuple [a] k1 p1) .Add b p2, c] k2 p3) env) (fun y s3 => (∃ q r tj tu, y = .ref q ∧ q ≠ r ∧ s.heap.get? q = none ∧ s.heap.get? r = none ∧ s3.heap.get? q = some { cls := .type "tuple", data := .seq [Value.ref r, .int u tu].toArray } ∧
      s3.heap.get? r = some { cls := .type "tuple", data := .seq (Value.int j tj :: its).toArray }) ∧ PySem.Keeps s s3) E s := by
  have fresh : ∀ {x y : Shared}, PySem.Keeps x y → x.heap.get? y.heap.objs.size = none := fun {x y} k => by
    cases e : x.heap.get? y.heap.objs.size with
    | none => rfl
    | some o => exact absurd (Heap.lt_size (keepsH k _ _ e)) (Nat.lt_irrefl _)
  have pushK : ∀ {x y : Shared} (o : Obj), PySem.Keeps x y → PySem.Keeps x { y with heap := y.heap.push o } := fun {x y} o k => by
    obtain ⟨h, t, rfl, kk⟩ := k
    exact ⟨_, t, rfl, fun c o e => Heap.get?_push_of_some _ (kk c o e)⟩
  refine wpAny_Tuple_spliced ?_
  rw [st2]
  refine (?_ : wpAny _ _ (spliced ((false, eval (Expr.BinOp (.Tuple [a] k1 p1) .Add b p2) env) :: backTo p3 ((false, eval c env) :: starEach [] env))) _ _ s)
  refine Calls.spliced_cons ?_
  -- the longer row
  have row : wpAny (model P w) A (eval (Expr.BinOp (.Tuple [a] k1 p1) .Add b p2) env) (fun y s2 => (∃ r tj, y = .ref r ∧ s.heap.get? r = none ∧ s2.heap.get? r = some { cls := .type "tuple", data := .seq (Value.int j tj :: its).toArray }) ∧ PySem.Keeps s s2) E s := by
    refine wpAny_BinOp (wpAny_Tuple_spliced ?_)
    rw [st1]
    refine (?_ : wpAny _ _ (spliced ((false, eval a env) :: backTo p1 (starEach [] env))) _ _ s)
    refine Calls.spliced_cons (wpAny_mono (ha E s (GxR.keeps_refl _)) (fun y s1 ⟨⟨tj, ey⟩, k⟩ => ?_) fun _ _ z => z)
    subst ey
    refine Calls.spliced_nil ⟨by show 1 ≤ sizeLine; decide, ?_⟩
    have f1 := fresh k
    have kq := pushK { cls := .type "tuple", data := .seq [Value.int j tj].toArray } k
    have q1 : (s1.heap.push { cls := .type "tuple", data := .seq [Value.int j tj].toArray }).get? s1.heap.objs.size = some { cls := .type "tuple", data := .seq [Value.int j tj].toArray } := Heap.get?_push_size _ rfl
    refine wpAny_mono (hb _ kq E _ (GxR.keeps_refl _)) (fun y s2 ⟨ey, k2⟩ => ?_) fun _ _ z => z
    subst ey
    have kk := keepsT kq k2
    have hq2 := keepsH k2 _ _ q1
    have ht2 := ht.keeps (keepsH kk)
    refine HT.cat_tup (vs := [Value.int j tj]) (ws := its) ⟨_, hq2, rfl, _, rfl⟩ ht2 (by simp) (fun e => ?_) (fun _ => ?_) (by show 1 + its.length ≤ sizeLine; exact Nat.le_trans (by omega : _ ≤ 1001) (by decide))
    · subst e
      exact ⟨⟨_, tj, rfl, f1, hq2⟩, kk⟩
    · exact ⟨⟨_, tj, rfl, fresh kk, Heap.get?_push_size _ rfl⟩, pushK _ kk⟩
  refine wpAny_mono row (fun y s1 ⟨⟨r, tj, ey, n1, h1⟩, k⟩ => ?_) fun _ _ z => z
  subst ey
  refine (?_ : wpAny _ _ (spliced ((false, eval c env) :: backTo p3 (starEach [] env))) _ _ s1)
  refine Calls.spliced_cons (wpAny_mono (hc s1 k E s1 (GxR.keeps_refl _)) (fun y s2 ⟨⟨tu, ey⟩, k2⟩ => ?_) fun _ _ z => z)
  subst ey
  have h2 := keepsH k2 _ _ h1
  refine Calls.spliced_nil ⟨by show 2 ≤ sizeLine; decide, ⟨s2.heap.objs.size, r, tj, tu, rfl, ?_, fresh (keepsT k k2), n1, Heap.get?_push_size _ rfl, ?_⟩, pushK _ (keepsT k k2)⟩
  · exact fun z => by
      rw [← z] at h2
      exact absurd (Heap.lt_size h2) (Nat.lt_irrefl _)
  · exact Heap.get?_push_of_some _ h2
end
/-- three names, in a comprehension -/
theorem pg_tripK (K : PySem.W.Frag) {X : Cx} {i j l k : Nat} {x y z : Str} {p q s pos : Pos} (hK : X.K = K) (hc : X.calm = true) (hN : X.N.Nodup) (hi : X.N[i]? = some x) (hx : Loc X.env.scope x) (hj : X.N[j]? = some y) (hy : Loc X.env.scope y) (hl : X.N[l]? = some z) (hz : Loc X.env.scope z)
    (hf : X.fn x = true ∨ X.env.scope.names.lookup x = some .local := by first | exact .inl rfl | exact .inr rfl) (hf' : X.fn y = true ∨ X.env.scope.names.lookup y = some .local := by first | exact .inl rfl | exact .inr rfl) (hf2 : X.fn z = true ∨ X.env.scope.names.lookup z = some .local := by first | exact .inl rfl | exact .inr rfl) :
    PG X (.Tuple [.Name x p, .Name y q, .Name z s] k pos) (gTup K 3 (gCons (gName i) (gCons (gName j) (gCons (gName l) gNil)))) := by
  subst hK
  exact pg_tup hc (pgs_cons (pg_name hN hi hx hf) (pgs_cons (pg_name hN hj hy hf') (pgs_cons (pg_name hN hl hz hf2) pgs_nil)))
/-! ### walks within a comprehension -/
theorem pi_tupK (K : PySem.W.Frag) {X : Cx} {tg l : Expr} {tl : TE} (hK : X.K = K) (hl : PE X l tl) : PI X tg l (iTup K tl) := by
  subst hK
  exact pi_tup hl
theorem pi_listK (K : PySem.W.Frag) {X : Cx} {tg l : Expr} {tl : TE} (hK : X.K = K) (hl : PE X l tl) : PI X tg l (iList K tl) := by
  subst hK
  exact pi_list hl
/-- a set of numbers, its size -/
theorem setR_few {w : World} {h : Heap} {a : Addr} {S : Int → Bool} {n : Nat} (R : SetR w h a S n) {bs : List Int} (sub : ∀ k, S k = true → k ∈ bs) : n ≤ bs.length := by
  obtain ⟨o, es, ep, t, ho, hex, hd, g, nd, hm, hb, hf, hn, hr, hl⟩ := R
  rw [← hn, ← Array.length_toList]
  have z := List.Nodup.length_le_of_subset nd (l₂ := bs) fun k hk => sub k ((hm k).mpr hk)
  rwa [List.length_map] at z
section
variable {X : Cx}
open PySem.W PySem.Calls
/-- sorted(set of few numbers) -/
def rSortedFew (w : World) : List V → Hp → VK → Prop := fun vs H Q => ∃ (a : Addr) (S : Int → Bool) (n : Nat) (bs : List Int), vs = [V.ref a] ∧ H a = some (SetO w a S n) ∧ (∀ k, S k = true → k ∈ bs) ∧ bs.length < 64 ∧
  ∀ (ns : List Int) (p : Addr), ns.Pairwise (· < ·) → (∀ k : Int, k ∈ ns ↔ S k = true) → ns.length = n → H p = none → Q (.ref p) (upd H p (.lst (ns.map V.int)))
theorem cr_sortedFew (hc : X.calm = true) : CallR X (.builtin "sorted") (rSortedFew X.w) := by
  intro pins s σ H vs us Q I r h
  obtain ⟨a, S, n, bs, rfl, ha, sub, few, q⟩ := h
  have := setR_few (setO_get I ha) sub
  exact cr_sortedSet hc pins s σ H [V.ref a] us Q I r ⟨a, S, n, rfl, ha, by omega, q⟩
end
/-! ### dicts whose keys are such data -/
/-- the dict at a, but for what its keys are: (key, where its tuple stands, value) in the order of insertion -/
def DictN (w : World) (h : Heap) (a : Addr) (L : List (PyData × Addr × V)) : Prop :=
  (a == sysModules) = false ∧ L.length ≤ sizeLine ∧ ∃ xs : List (NestedKey × Addr × Value), Paired (fun (p : PyData × Addr × V) (q : NestedKey × Addr × Value) => q.1 = keyOf p.1 ∧ q.2.1 = p.2.1 ∧ RelV p.2.2 q.2.2) L xs ∧
  ∃ (o : Obj) (es : Array DictEntry) (ep : Nat), h.get? a = some o ∧ o.ExactDict ∧ o.data = .dict es ep ∧ es.toList = xs.map (fun x => (⟨x.1.hash w, .ref x.2.1, x.2.2⟩ : DictEntry)) ∧ (xs.map (·.1)).Nodup
def DictKO (w : World) (a : Addr) (L : List (PyData × Addr × V)) : HO := .ext fun h => DictN w h a L
theorem dictKO_new {P : Program} {w : World} {H : Hp} {h : Heap} {a : Addr} {L : List (PyData × Addr × V)} (R : DictN w h a L) : ObjOk P w H h a (DictKO w a L) := by
  obtain ⟨_, _, _, _, o, _, _, at1, _⟩ := id R
  refine ⟨R, ⟨o, at1⟩, fun h1 h2 p k => ?_⟩
  obtain ⟨q0, q1, xs, q2, u, es, ep, at2, q3⟩ := p
  exact ⟨q0, q1, xs, q2, u, es, ep, k u at2, q3⟩
/-- each key stands where it is said to -/
def KeysD (K : PySem.W.Frag) (H : Hp) (L : List (PyData × Addr × V)) : Prop := ∀ p ∈ L, isKeyD p.1 = true ∧ p.1.depth ≤ 8 ∧ Dp K H (.ref p.2.1) p.1
/-- what the dict is behind d[k] = v -/
def PutD (L : List (PyData × Addr × V)) (d : PyData) (b : Addr) (v : V) (M : List (PyData × Addr × V)) : Prop :=
  (d ∉ L.map Prod.fst ∧ M = L ++ [(d, b, v)]) ∨ (d ∈ L.map Prod.fst ∧ M = L.map fun p => if keyOf p.1 = keyOf d then (p.1, p.2.1, v) else p)
section
variable {X : Cx} {pins : List (Addr × Obj)} {σ : L2.St} {H : Hp} {s : Shared} {a : Addr} {L : List (PyData × Addr × V)}
abbrev KV3 (L : List (PyData × Addr × V)) (xs : List (NestedKey × Addr × Value)) : Prop := Paired (fun (p : PyData × Addr × V) (q : NestedKey × Addr × Value) => q.1 = keyOf p.1 ∧ q.2.1 = p.2.1 ∧ RelV p.2.2 q.2.2) L xs
theorem kv3_keys : ∀ {L : List (PyData × Addr × V)} {xs : List (NestedKey × Addr × Value)}, KV3 L xs → xs.map (·.1) = L.map fun p => keyOf p.1
  | _, _, .nil => rfl
  | _, _, .cons r t => by rw [List.map_cons, List.map_cons, kv3_keys t, r.1]
theorem kv3_len : ∀ {L : List (PyData × Addr × V)} {xs : List (NestedKey × Addr × Value)}, KV3 L xs → L.length = xs.length
  | _, _, .nil => rfl
  | _, _, .cons _ t => by rw [List.length_cons, List.length_cons, kv3_len t]
theorem kv3_mem : ∀ {L : List (PyData × Addr × V)} {xs : List (NestedKey × Addr × Value)}, KV3 L xs → ∀ q ∈ xs, ∃ p ∈ L, q.1 = keyOf p.1 ∧ q.2.1 = p.2.1 ∧ RelV p.2.2 q.2.2
  | _, _, .nil, _, h => by cases h
  | _, _, .cons (a := p) r t, q, h => by
    rcases List.mem_cons.mp h with rfl | h
    · exact ⟨p, List.mem_cons_self, r⟩
    · obtain ⟨p, hp, e⟩ := kv3_mem t q h
      exact ⟨p, List.mem_cons_of_mem _ hp, e⟩
theorem kv3_back : ∀ {L : List (PyData × Addr × V)} {xs : List (NestedKey × Addr × Value)}, KV3 L xs → ∀ p ∈ L, ∃ q ∈ xs, q.1 = keyOf p.1 ∧ q.2.1 = p.2.1 ∧ RelV p.2.2 q.2.2
  | _, _, .nil, _, h => by cases h
  | _, _, .cons (b := q) r t, p, h => by
    rcases List.mem_cons.mp h with rfl | h
    · exact ⟨q, List.mem_cons_self, r⟩
    · obtain ⟨q, hq, e⟩ := kv3_back t p h
      exact ⟨q, List.mem_cons_of_mem _ hq, e⟩
theorem kv3_snoc : ∀ {L : List (PyData × Addr × V)} {xs : List (NestedKey × Addr × Value)} {p : PyData × Addr × V} {q : NestedKey × Addr × Value}, KV3 L xs → (q.1 = keyOf p.1 ∧ q.2.1 = p.2.1 ∧ RelV p.2.2 q.2.2) → KV3 (L ++ [p]) (xs ++ [q])
  | _, _, _, _, .nil, h => .cons h .nil
  | _, _, _, _, .cons r t, h => .cons r (kv3_snoc t h)
theorem kv3_put {k : NestedKey} {v : V} {u : Value} (rv : RelV v u) : ∀ {L : List (PyData × Addr × V)} {xs : List (NestedKey × Addr × Value)}, KV3 L xs → KV3 (L.map fun p => if keyOf p.1 = k then (p.1, p.2.1, v) else p) (xs.map (putAt k u))
  | _, _, .nil => .nil
  | _, _, .cons (a := p) (b := q) r t => by
    refine .cons ?_ (kv3_put rv t)
    unfold putAt
    dsimp only
    by_cases e : keyOf p.1 = k
    · rw [if_pos e, if_pos (r.1.trans e)]
      exact ⟨r.1, r.2.1, rv⟩
    · rw [if_neg e, if_neg fun z => e (r.1.symm.trans z)]
      exact r
theorem dictN_open (I : Inv X pins σ H s) (e : H a = some (DictKO X.w a L)) (hk : KeysD X.K H L) : (a == sysModules) = false ∧ L.length ≤ sizeLine ∧ ∃ xs, KV3 L xs ∧ s.heap.DictOfH (nestedKind X.prog X.w) a xs := by
  obtain ⟨q0, q1, xs, rel, o, es, ep, at1, ex, dat, rows, nd⟩ := (show DictN X.w s.heap a L from (I.hok a _ e).1)
  refine ⟨q0, q1, xs, rel, o, es, ep, at1, ex, dat, rows, fun x hx => ?_, nd⟩
  obtain ⟨p, hp, e1, e2, _⟩ := kv3_mem rel x hx
  obtain ⟨k1, k2, k3⟩ := hk p hp
  have := key_at I k1 k2 k3
  rw [e1, e2]
  exact ⟨this.is, this.low⟩
theorem atKey_iff {xs : List (NestedKey × Addr × Value)} {k : NestedKey} : (atKey xs k).isSome = true ↔ k ∈ xs.map (·.1) := by
  unfold atKey
  rw [Option.isSome_map, List.find?_isSome]
  constructor
  · rintro ⟨x, hx, e⟩
    exact List.mem_map.mpr ⟨x, hx, of_decide_eq_true e⟩
  · intro h
    obtain ⟨x, hx, e⟩ := List.mem_map.mp h
    exact ⟨x, hx, decide_eq_true e⟩
theorem key_there (hk : KeysD X.K H L) {d : PyData} (kd : isKeyD d = true) : keyOf d ∈ (L.map fun p => keyOf p.1) ↔ d ∈ L.map Prod.fst := by
  constructor
  · intro h
    obtain ⟨p, hp, e⟩ := List.mem_map.mp h
    exact List.mem_map.mpr ⟨p, hp, keyOf_inj _ _ (hk p hp).1 kd e⟩
  · intro h
    obtain ⟨p, hp, rfl⟩ := List.mem_map.mp h
    exact List.mem_map.mpr ⟨p, hp, rfl⟩
theorem atKey_of {xs : List (NestedKey × Addr × Value)} (nd : (xs.map (·.1)).Nodup) {q : NestedKey × Addr × Value} (h : q ∈ xs) : atKey xs q.1 = some q.2 := by
  unfold atKey
  induction xs with
  | nil => cases h
  | cons x xs ih =>
    rw [List.map_cons, List.nodup_cons] at nd
    rcases List.mem_cons.mp h with rfl | h
    · rw [List.find?_cons_of_pos (by simp)]
      rfl
    · have ne : x.1 ≠ q.1 := fun e => nd.1 (by rw [e]; exact List.mem_map.mpr ⟨q, h, rfl⟩)
      rw [List.find?_cons_of_neg (by simpa using ne)]
      exact ih nd.2 h
/-- what a key of a search is -/
abbrev IsKeyAt (K : PySem.W.Frag) (H : Hp) (b : Addr) (d : PyData) : Prop := isKeyD d = true ∧ d.depth ≤ 8 ∧ Dp K H (.ref b) d
theorem IsKeyAt.is (I : Inv X pins σ H s) {b : Addr} {d : PyData} (h : IsKeyAt X.K H b d) : (nestedKind X.prog X.w).is s.heap (keyOf d) b :=
  let k := key_at I h.1 h.2.1 h.2.2
  ⟨k.is, k.low⟩
variable {A : Around} {E : Value → Shared → Prop} {b : Addr} {d : PyData} {v : V}
theorem n_getItem {Q : Value → Shared → Prop} (hu : A.units + 64 < cLine) (I : Inv X pins σ H s) (e : H a = some (DictKO X.w a L)) (hk : KeysD X.K H L) (kd : IsKeyAt X.K H b d) {c : Addr} (m : (d, c, v) ∈ L) (h : ∀ w' s', Inv X pins σ H s' → RelV v w' → Q w' s') :
    wpAny (model X.prog X.w) A (getItem (.ref a) (.ref b)) Q E s := by
  obtain ⟨q0, q1, xs, rel, dd⟩ := dictN_open I e hk
  obtain ⟨q, hq, e1, e2, e3⟩ := kv3_back rel _ m
  obtain ⟨_, _, _, _, _, _, _, _, nd⟩ := id dd
  have z := atKey_of nd hq
  rw [e1] at z
  exact wpAny_getItem_heap (show A.in1.units + 8 < cLine by rw [Around.in1_units]; omega) (kd.is I) dd z (h _ _ (I.tok _) e3)
theorem n_in {Q : Value → Shared → Prop} (hu : A.units + 64 < cLine) (I : Inv X pins σ H s) (e : H a = some (DictKO X.w a L)) (hk : KeysD X.K H L) (kd : IsKeyAt X.K H b d) (h : ∀ c s', (c = true ↔ d ∈ L.map Prod.fst) → Inv X pins σ H s' → Q (.bool c) s') :
    wpAny (model X.prog X.w) A (compareOp .In (.ref b) (.ref a)) Q E s := by
  obtain ⟨q0, q1, xs, rel, dd⟩ := dictN_open I e hk
  refine wpAny_in_heap (show A.in1.units + 8 < cLine by rw [Around.in1_units]; omega) (kd.is I) q0 dd (h _ _ ?_ (I.tok _))
  rw [atKey_iff, kv3_keys rel, key_there hk kd.1]
theorem n_notIn {Q : Value → Shared → Prop} (hu : A.units + 64 < cLine) (I : Inv X pins σ H s) (e : H a = some (DictKO X.w a L)) (hk : KeysD X.K H L) (kd : IsKeyAt X.K H b d) (h : ∀ c s', (c = true ↔ d ∉ L.map Prod.fst) → Inv X pins σ H s' → Q (.bool c) s') :
    wpAny (model X.prog X.w) A (compareOp .NotIn (.ref b) (.ref a)) Q E s := by
  obtain ⟨q0, q1, xs, rel, dd⟩ := dictN_open I e hk
  refine wpAny_notIn_heap (show A.in1.units + 8 < cLine by rw [Around.in1_units]; omega) (kd.is I) q0 dd (h _ _ ?_ (I.tok _))
  rw [← key_there hk kd.1, ← kv3_keys rel, ← atKey_iff]
  cases (atKey xs (keyOf d)).isSome <;> simp
theorem n_setItem {u : Value} {Q : Unit → Shared → Prop} (hu : A.units + 64 < cLine) (I : Inv X pins σ H s) (e : H a = some (DictKO X.w a L)) (hk : KeysD X.K H L) (kd : IsKeyAt X.K H b d) (few : L.length < sizeLine) (rv : RelV v u)
    (h : ∀ M s', PutD L d b v M → Inv X pins σ (upd H a (DictKO X.w a M)) s' → Q () s') : wpAny (model X.prog X.w) A (setItem (.ref a) (.ref b) u) Q E s := by
  obtain ⟨q0, q1, xs, rel, dd⟩ := dictN_open I e hk
  refine wpAny_setItem_heap (hsz := by rw [← kv3_len rel]; exact q1) (show A.in1.units + 8 < cLine by rw [Around.in1_units]; omega) (kd.is I) dd fun h' dd' hs => ?_
  obtain ⟨o, es, ep, at1, ex, dat, rows, _, nd⟩ := dd'
  have key : (atKey xs (keyOf d)).isSome = true ↔ d ∈ L.map Prod.fst := by rw [atKey_iff, kv3_keys rel, key_there hk kd.1]
  have wr : ∀ {M : List (PyData × Addr × V)}, M.length ≤ sizeLine → KV3 M (storedH xs (keyOf d) b u) → PutD L d b v M → Q () { s with heap := h', toks := s.toks + (nestedKind X.prog X.w).draws (keyOf d) } := fun ml r p =>
    h _ _ p (d_write I (by rw [e]; exact True.intro) hs ⟨o, at1⟩ (dictKO_new ⟨q0, ml, _, r, o, es, ep, at1, ex, dat, rows, nd⟩))
  cases z : atKey xs (keyOf d) with
  | none =>
    have n : d ∉ L.map Prod.fst := fun m => by
      have := key.mpr m
      rw [z] at this
      cases this
    rw [storedH_new z] at wr
    exact wr (M := L ++ [(d, b, v)]) (by rw [List.length_append, List.length_singleton]; omega) (kv3_snoc rel ⟨rfl, rfl, rv⟩) (.inl ⟨n, rfl⟩)
  | some p =>
    have y : d ∈ L.map Prod.fst := key.mp (by rw [z]; rfl)
    rw [storedH_old z] at wr
    exact wr (by rw [List.length_map]; exact q1) (kv3_put rv rel) (.inr ⟨y, rfl⟩)
end
/-! ### such dicts in a frame -/
def tNNew (w : World) : TE := fun _ H Q => ∀ p, H p = none → Q (.ref p) (upd H p (DictKO w p []))
/-- d[k] -/
def tNGet (K : PySem.W.Frag) (w : World) (td ty : TE) : TE := fun σ H Q => td σ H fun x H1 => ty σ H1 fun y H2 => ∃ (a : Addr) (L : List (PyData × Addr × V)) (b : Addr) (d : PyData) (c : Addr) (v : V), x = .ref a ∧ y = .ref b ∧ H2 a = some (DictKO w a L) ∧ KeysD K H2 L ∧ IsKeyAt K H2 b d ∧ (d, c, v) ∈ L ∧ Q v H2
/-- k in d, k not in d -/
def tNIn (K : PySem.W.Frag) (w : World) (ty td : TE) : TE := fun σ H Q => ty σ H fun y H1 => td σ H1 fun x H2 => ∃ (a : Addr) (L : List (PyData × Addr × V)) (b : Addr) (d : PyData), x = .ref a ∧ y = .ref b ∧ H2 a = some (DictKO w a L) ∧ KeysD K H2 L ∧ IsKeyAt K H2 b d ∧ ∀ c : Bool, (c = true ↔ d ∈ L.map Prod.fst) → Q (.bl c) H2
def tNNotIn (K : PySem.W.Frag) (w : World) (ty td : TE) : TE := fun σ H Q => ty σ H fun y H1 => td σ H1 fun x H2 => ∃ (a : Addr) (L : List (PyData × Addr × V)) (b : Addr) (d : PyData), x = .ref a ∧ y = .ref b ∧ H2 a = some (DictKO w a L) ∧ KeysD K H2 L ∧ IsKeyAt K H2 b d ∧ ∀ c : Bool, (c = true ↔ d ∉ L.map Prod.fst) → Q (.bl c) H2
/-- d[k] = v -/
def sNPut (K : PySem.W.Frag) (w : World) (td ty tv : TE) : TS := fun D σ H => tv σ H fun v H1 => td σ H1 fun x H2 => ty σ H2 fun y H3 => ∃ (a : Addr) (L : List (PyData × Addr × V)) (b : Addr) (d : PyData), x = .ref a ∧ y = .ref b ∧ H3 a = some (DictKO w a L) ∧ KeysD K H3 L ∧ IsKeyAt K H3 b d ∧ L.length < sizeLine ∧ ∀ M, PutD L d b v M → D.nx σ (upd H3 a (DictKO w a M))
/-- d[k] op= v -/
def sNAug (K : PySem.W.Frag) (w : World) (td ty tv : TE) (rd : V → V → Hp → VK → Prop) : TS := fun D σ H => td σ H fun x H1 => ty σ H1 fun y H2 => ∃ (a : Addr) (L : List (PyData × Addr × V)) (b : Addr) (d : PyData) (c : Addr) (v : V), x = .ref a ∧ y = .ref b ∧ H2 a = some (DictKO w a L) ∧ KeysD K H2 L ∧ IsKeyAt K H2 b d ∧ (d, c, v) ∈ L ∧
  tv σ H2 fun y2 H3 => rd v y2 H3 fun z H4 => ∃ L2, H4 a = some (DictKO w a L2) ∧ KeysD K H4 L2 ∧ IsKeyAt K H4 b d ∧ L2.length < sizeLine ∧ ∀ M, PutD L2 d b z M → D.nx σ (upd H4 a (DictKO w a M))
section
variable {X : Cx} {o i e value : Expr} {pos pos' tpos : Pos} {td ty tv : TE}
theorem dictN_empty {w : World} (h : Heap) (hb : sysModules < h.objs.size) : DictN w (h.push { cls := .type "dict", data := .dict #[] }) h.objs.size [] :=
  ⟨beq_eq_false_iff_ne.mpr (Ne.symm (Nat.ne_of_lt hb)), Nat.zero_le _, [], .nil, _, #[], 0, Heap.get?_push_size _ rfl, ⟨rfl, rfl, rfl⟩, rfl, rfl, List.nodup_nil⟩
theorem pe_nnew : PE X (.Dict [] [] pos) (tNNew X.w) := ⟨fun pins s σ H Q I h =>
  wpAny_Dict_empty ⟨.ref s.heap.objs.size, _, I.laid (a := s.heap.objs.size) (o := DictKO X.w s.heap.objs.size []) (t' := s.toks) (fun _ _ q => Heap.get?_push_of_some _ q) (Nat.le_refl _) (dictKO_new (dictN_empty s.heap I.big)), rfl, h _ (I.hok.fresh (Nat.le_refl _))⟩⟩
theorem dictN_is {pins : List (Addr × Obj)} {σ : L2.St} {H : Hp} {s : Shared} {a : Addr} {L : List (PyData × Addr × V)} (I : Inv X pins σ H s) (e : H a = some (DictKO X.w a L)) (hk : KeysD X.K H L) : s.TypeIs (.ref a) "dict" := by
  obtain ⟨_, _, xs, _, dd⟩ := dictN_open I e hk
  exact dd.typeIs
theorem pe_nget (hu : X.A.units + 64 < cLine) (ho : PE X o td) (hi : PE X i ty) (hs : NoSl i) : PE X (.Subscript o i pos) (tNGet X.K X.w td ty) := by
  refine ⟨fun pins s σ H Q I h => ?_⟩
  refine subD_of PySem.F.slot_dict_getitem.lookup hs (thn (ho.run pins s σ H _ I h) fun u s1 ⟨x, H1, I1, rx, q1⟩ => thn (hi.run pins s1 σ H1 _ I1 q1) fun iv s2 ⟨y, H2, I2, ry, a, L, b, d, c, v, ex, ey, e, hk, kd, m, q2⟩ => ?_)
  subst ex ey
  obtain rfl : u = Value.ref a := rx
  obtain rfl : iv = Value.ref b := ry
  exact ⟨dictN_is I2 e hk, n_getItem hu I2 e hk kd m fun w' s3 I3 rw' => ⟨v, H2, I3, rw', q2⟩⟩
theorem pc_nin (hu : X.A.units + 64 < cLine) (hi : PE X i ty) (ho : PE X o td) : PC X .In i o (tNIn X.K X.w ty td) := by
  refine ⟨fun pins s σ H Q I h => ?_⟩
  refine thn (hi.run pins s σ H _ I h) fun iv s1 ⟨y, H1, I1, ry, q1⟩ => thn (ho.run pins s1 σ H1 _ I1 q1) fun u s2 ⟨x, H2, I2, rx, a, L, b, d, ex, ey, e, hk, kd, q2⟩ => ?_
  subst ex ey
  obtain rfl : u = Value.ref a := rx
  obtain rfl : iv = Value.ref b := ry
  exact n_in hu I2 e hk kd fun c s3 hc I3 => ⟨.bl c, H2, I3, rfl, q2 c hc⟩
theorem pc_nnotin (hu : X.A.units + 64 < cLine) (hi : PE X i ty) (ho : PE X o td) : PC X .NotIn i o (tNNotIn X.K X.w ty td) := by
  refine ⟨fun pins s σ H Q I h => ?_⟩
  refine thn (hi.run pins s σ H _ I h) fun iv s1 ⟨y, H1, I1, ry, q1⟩ => thn (ho.run pins s1 σ H1 _ I1 q1) fun u s2 ⟨x, H2, I2, rx, a, L, b, d, ex, ey, e, hk, kd, q2⟩ => ?_
  subst ex ey
  obtain rfl : u = Value.ref a := rx
  obtain rfl : iv = Value.ref b := ry
  exact n_notIn hu I2 e hk kd fun c s3 hc I3 => ⟨.bl c, H2, I3, rfl, q2 c hc⟩
theorem ps_nput (hu : X.A.units + 64 < cLine) (ho : PE X o td) (hi : PE X i ty) (hv : PE X value tv) (hs : swapsWith value (some (.Subscript o i pos')) pos.line X.env = pure false) :
    PS X (.Assign [.Subscript o i pos'] value pos) (sNPut X.K X.w td ty tv) := by
  refine ⟨fun pins s σ H D I h => ?_⟩
  refine wpAny_Assign_Subscript (thn (hv.run pins s σ H _ I h) fun r s1 ⟨v, H1, I1, rv, q1⟩ => thn (ho.run pins s1 σ H1 _ I1 q1) fun u s2 ⟨x, H2, I2, rx, q2⟩ => thn (hi.run pins s2 σ H2 _ I2 q2) fun iv s3 ⟨y, H3, I3, ry, a, L, b, d, ex, ey, e, hk, kd, few, q3⟩ => ?_) hs
  subst ex ey
  obtain rfl : u = Value.ref a := rx
  obtain rfl : iv = Value.ref b := ry
  exact n_setItem hu I3 e hk kd few rv fun M s4 hM I4 => ⟨σ, _, I4, q3 M hM⟩
theorem ps_naug {op : Operator} {rd : V → V → Hp → VK → Prop} (hu : X.A.units + 64 < cLine) (ho : PE X o td) (hi : PE X i ty) (hv : PE X value tv) (hop : InOp X op rd)
    (ha : ∀ ov iv new, augStore i ov iv new = (do holding [new, ov, iv] (setItem ov iv new); release [new, ov, iv] []; pure .next)) : PS X (.AugAssign (.Subscript o i tpos) op value pos) (sNAug X.K X.w td ty tv rd) := by
  refine ⟨fun pins s σ H D I h => ?_⟩
  refine wpAny_AugAssign_SubscriptAny (thn (ho.run pins s σ H _ I h) fun u s1 ⟨x, H1, I1, rx, q1⟩ => thn (hi.run pins s1 σ H1 _ I1 q1) fun iv s2 ⟨y, H2, I2, ry, a, L, b, d, c, v, ex, ey, e, hk, kd, m, q2⟩ => ?_) ha
  subst ex ey
  obtain rfl : u = Value.ref a := rx
  obtain rfl : iv = Value.ref b := ry
  refine n_getItem hu I2 e hk kd m fun w' s3 I3 rw' => thn (hv.run pins s3 σ H2 _ I3 q2) fun w2 s4 ⟨y2, H3, I4, ry2, q3⟩ => thn (hop pins s4 σ H3 v y2 w' w2 _ I4 rw' ry2 q3) fun w3 s5 ⟨z, H4, I5, rz, L2, e5, hk5, kd5, few, q4⟩ => ?_
  exact n_setItem hu I5 e5 hk5 kd5 few rz fun M s6 hM I6 => ⟨σ, _, I6, q4 M hM⟩
/-- list(d) -/
def rListN (K : PySem.W.Frag) (w : World) : List V → Hp → VK → Prop := fun xs H Q => ∃ (a : Addr) (L : List (PyData × Addr × V)), xs = [V.ref a] ∧ H a = some (DictKO w a L) ∧ KeysD K H L ∧ ∀ p, H p = none → Q (.ref p) (upd H p (.lst (L.map fun q => V.ref q.2.1)))
theorem kv3_refs : ∀ {L : List (PyData × Addr × V)} {xs : List (NestedKey × Addr × Value)}, KV3 L xs → xs.map (fun x => x.2.1) = L.map fun q => q.2.1
  | _, _, .nil => rfl
  | _, _, .cons r t => by rw [List.map_cons, List.map_cons, kv3_refs t, r.2.1]
theorem cr_listN (hc : X.calm = true) : CallR X (.type "list") (rListN X.K X.w) := by
  intro pins s σ H xs us Q I r h
  obtain ⟨a, L, rfl, ha, hk, q⟩ := h
  obtain ⟨u, rfl, rx⟩ := r.one
  cases rx
  obtain ⟨hs, z, ks, rel, o, es, ep, ho, hx, hdt, he, his, hn⟩ := dictN_open I ha hk
  have l2 := kv3_len rel
  have l1 : es.size = ks.length := by rw [← Array.length_toList, he, List.length_map]
  refine PySem.W.kdl_call (kdl_raw hs hx hdt) (I.ok.hd hc) ho (by omega) fun h' tk acc' c' kp e it => ?_
  have ea : acc'.toList = ks.map fun x => Value.ref x.2.1 := by
    have hl : acc'.toList.length = ks.length := by rw [Array.length_toList, it.1]; exact l1
    apply List.ext_getElem?
    intro j
    rw [List.getElem?_map]
    cases hj : acc'.toList[j]? with
    | none =>
      have h1 := List.getElem?_eq_none_iff.mp hj
      rw [List.getElem?_eq_none (by omega)]
      rfl
    | some v =>
      obtain ⟨en, hen, hv⟩ := it.2 j v (by rw [← Array.getElem?_toList]; exact hj)
      rw [← Array.getElem?_toList, he, List.getElem?_map] at hen
      cases hb : ks[j]? with
      | none =>
        rw [hb] at hen
        cases hen
      | some b =>
        rw [hb] at hen
        have e2 : (entryOfKey (nestedKind X.prog X.w) b) = en := Option.some.inj hen
        rw [hv, ← e2]
        rfl
  have eb : acc'.toList = (L.map fun q => q.2.1).map Value.ref := by rw [ea, ← kv3_refs rel, List.map_map]; rfl
  have rv : Vals (L.map fun q => V.ref q.2.1) acc'.toList := by
    rw [eb, show (L.map fun q => V.ref q.2.1) = (L.map fun q => q.2.1).map V.ref by rw [List.map_map]; rfl]
    exact vals_refs _
  exact ⟨.ref s.heap.objs.size, _, I.laid (t' := tk) (o := .lst (L.map fun q => V.ref q.2.1)) kp (Nat.le_refl _) ⟨by rw [List.length_map]; exact z, acc'.toList, c', rv, by rw [Array.toArray_toList]; exact e⟩, rfl, q _ (I.hok.fresh (Nat.le_refl _))⟩
end
/-! ### new tuples, known to the object: displays, sums, t[::-1]; sorted(set) that keeps the objects -/
section
variable {X : Cx}
open PySem.W in
theorem frz_new {P : Program} {w : World} {H : Hp} {g : Heap} {xs : List V} {us : List Value} (r : Vals xs us) (z : xs.length ≤ sizeLine) : ObjOk P w (upd H g.objs.size (.frz { cls := .type "tuple", data := .seq us.toArray } (.tup xs))) (g.push { cls := .type "tuple", data := .seq us.toArray }) g.objs.size (.frz { cls := .type "tuple", data := .seq us.toArray } (.tup xs)) :=
  ⟨Heap.get?_push_size _ rfl, z, us, r, IsTup.new _ _⟩
def tTupZ (t : TA) : TE := fun σ H Q => t σ H fun xs H1 => xs.length ≤ sizeLine ∧ ∀ (p : Addr) (o : Obj), o.cls = .type "tuple" → o.dict = none → H1 p = none → Q (.ref p) (upd H1 p (.frz o (.tup xs)))
theorem pe_tupZ {es : List Expr} {pos : Pos} {t : TA} {x1} (h : PA X es t) : PE X (.Tuple es x1 pos) (tTupZ t) := by
  refine ⟨fun pins s σ H Q I hq => ?_⟩
  refine wpAny_Tuple_spliced (thn (h.run pos pins s σ H _ I hq) fun us s1 ⟨xs, H1, I1, r, z, q⟩ => ⟨by rw [← r.length]; exact z, ?_⟩)
  have hf : H1 s1.heap.objs.size = none := I1.hok.fresh (Nat.le_refl _)
  exact ⟨.ref s1.heap.objs.size, _, I1.laid (t' := s1.toks) (fun b u e => Heap.get?_push_of_some _ e) (Nat.le_refl _) (frz_new r z), rfl, q _ _ rfl rfl hf⟩
def rCatZ (K : PySem.W.Frag) : R2 := fun x y H Q => ∃ (a b : Addr) (xs ys : List V), x = .ref a ∧ y = .ref b ∧ SqT K H a xs ∧ SqT K H b ys ∧ xs ≠ [] ∧ xs.length + ys.length ≤ sizeLine ∧ (ys = [] → FrzT H a xs) ∧
  ∀ (t : Addr) (J : Hp), FrzT J t (xs ++ ys) → Same H J → Q (.ref t) J
theorem op_catZ : OpR X (binaryOp .Add) (rCatZ X.K) := by
  intro pins s σ H x y v u Q I rx ry h
  obtain ⟨a, b, xs, ys, rfl, rfl, ha, hb, hx, hz, fz, q⟩ := h
  cases rx
  cases ry
  obtain ⟨its, r1, p1, _⟩ := I.tuple ha
  obtain ⟨its2, r2, p2, _⟩ := I.tuple hb
  refine HT.cat_tup p1 p2 (fun z => hx (r1.nil_iff.mp z)) (fun z => ⟨.ref a, H, I, rfl, q a H ?_ (Same.refl H)⟩) (fun z => ?_) (by rw [← r1.length, ← r2.length]; exact hz)
  · have e := r2.nil_iff.mp z
    rw [e, List.append_nil]
    exact fz e
  · have hf : H s.heap.objs.size = none := I.hok.fresh (Nat.le_refl _)
    exact ⟨.ref s.heap.objs.size, _, I.laid (t' := s.toks) (fun b ob q => Heap.get?_push_of_some _ q) (Nat.le_refl _) (frz_new (r1.append r2) (by rw [List.length_append]; exact hz)), rfl, q _ _ ⟨_, rfl, rfl, upd_same⟩ fun c o e => by rw [upd_ne (ne_of_none e hf)]; exact e⟩
theorem catZK (K : PySem.W.Frag) (h : X.K = K) : OpR X (binaryOp .Add) (rCatZ K) := h ▸ op_catZ
def tBackZ (K : PySem.W.Frag) (te : TE) : TE := fun σ H Q => te σ H fun x J => ∃ (a : Addr) (xs : List V), x = .ref a ∧ SqT K J a xs ∧ ∀ (p : Addr) (o : Obj), o.cls = .type "tuple" → o.dict = none → J p = none → Q (.ref p) (upd J p (.frz o (.tup xs.reverse)))
theorem pe_revZ {e : Expr} {te : TE} {k : Nat} {p1 p2 p3 pos : Pos} (he : PE X e te) : PE X (.Subscript e (.Slice none none (some (.UnaryOp .USub (.Constant (.int 1) k p1) p2)) p3) pos) (tBackZ X.K te) := by
  refine ⟨fun pins s σ H Q I h => Subscript_ (thn (he.run pins s σ H _ I h) fun v s1 ⟨x, H1, I1, r1, a, xs, ex, hx, q⟩ => ?_)⟩
  subst ex
  cases r1
  have step : PO X (some (.UnaryOp .USub (.Constant (.int 1) k p1) p2)) _ := po_some (pe_un un_neg pe_int)
  refine wpAny_Slice (thn (po_none.run pins s1 σ H1 (fun o L => o = none ∧ L = H1) I1 ⟨rfl, rfl⟩) fun vl s2 ⟨l, H2, I2, pl, el, e2⟩ => ?_)
  subst el e2
  refine thn (po_none.run pins s2 σ H2 (fun o L => o = none ∧ L = H2) I2 ⟨rfl, rfl⟩) fun vu s3 ⟨u, H3, I3, pu, eu, e3⟩ => ?_
  subst eu e3
  refine thn (step.run pins s3 σ H3 (fun o L => o = some (-1) ∧ L = H3) I3 ⟨1, rfl, -1, rfl, rfl, rfl⟩) fun vs s4 ⟨o, H4, I4, ps, eo, e4⟩ => ?_
  subst eo e4
  cases pl
  cases pu
  have I5 : Inv X pins σ H4 { s4 with heap := s4.heap.push { cls := .type "slice", data := .fields #[.none, .none, vs] } } := I4.kept (t' := s4.toks) fun b ob z => Heap.get?_push_of_some _ z
  obtain ⟨its, r, isT, hz⟩ := I5.tuple hx
  have hlen := r.length
  show wpAny (model X.prog X.w) X.A (subscriptTail e (.Slice none none (some (.UnaryOp .USub (.Constant (.int 1) k p1) p2)) p3) (.ref a) (.ref s4.heap.objs.size)) (EP X pins σ Q) X.xe { s4 with heap := s4.heap.push { cls := .type "slice", data := .fields #[.none, .none, vs] } }
  refine tail_any (ops := [.ref a, .ref s4.heap.objs.size]) isT.typeIs PyProof.Rows.slot_tuple_getitem.lookup ?_ (by with_unfolding_all rfl)
  refine getItem_back isT (Heap.IsSliceOf.new _ .none .none vs) ps (by rw [List.size_toArray]; omega) ?_
  exact ⟨.ref _, _, I5.laid (t' := s4.toks) (fun b ob z => Heap.get?_push_of_some _ z) (Nat.le_refl _) (frz_new (us := its.reverse) r.reverse (by rw [List.length_reverse]; exact hz)), rfl, q _ _ rfl rfl (I5.hok.fresh (Nat.le_refl _))⟩
theorem pe_revZK (K : PySem.W.Frag) (hK : X.K = K) {e : Expr} {te : TE} {k : Nat} {p1 p2 p3 pos : Pos} (he : PE X e te) : PE X (.Subscript e (.Slice none none (some (.UnaryOp .USub (.Constant (.int 1) k p1) p2)) p3) pos) (tBackZ K te) := hK ▸ pe_revZ he
end
section
variable {X : Cx}
open PySem.W PySem.Calls
/-- sorted(set): the objects stay -/
def rSortedA (K : PySem.W.Frag) (w : World) : List V → Hp → VK → Prop := fun vs H Q => ∃ (a : Addr) (L : List (PyData × Addr)), vs = [V.ref a] ∧ H a = some (SetKO w a L) ∧ (∀ p ∈ L, isKeyD p.1 = true ∧ p.1.depth ≤ 8 ∧ Dp K H (.ref p.2) p.1) ∧ AllAlike (L.map Prod.fst) ∧ Sortable (L.map Prod.fst) ∧
  ∀ (M : List (PyData × Addr)) (p : Addr), (∀ x ∈ M, x ∈ L) → (∃ N : List (PyData × Addr), N.Perm L ∧ M.map Prod.fst = (N.map Prod.fst).mergeSort (dataLe false id)) → H p = none → Q (.ref p) (upd H p (.lst (M.map fun x => V.ref x.2)))
theorem each_pairs {L : List (PyData × Addr)} : ∀ {us : List Value} {ds : List PyData}, EachIs (fun (u : Value) (d : PyData) => ∃ p ∈ L, u = Value.ref p.2 ∧ d = p.1) us ds → ∃ M : List (PyData × Addr), (∀ x ∈ M, x ∈ L) ∧ us = M.map (fun x => Value.ref x.2) ∧ M.map Prod.fst = ds
  | _, _, .nil => ⟨[], fun x hx => (nomatch hx), rfl, rfl⟩
  | _, _, .cons ⟨p, hp, e1, e2⟩ t => by
    obtain ⟨M, h1, h2, h3⟩ := each_pairs t
    refine ⟨p :: M, fun x hx => ?_, by rw [e1, h2]; rfl, by rw [e2, ← h3]; rfl⟩
    rcases List.mem_cons.mp hx with rfl | hx
    · exact hp
    · exact h1 x hx
theorem cr_sortedA (hc : X.calm = true) (hu : X.A.units + 64 < cLine) : CallR X (.builtin "sorted") (rSortedA X.K X.w) := by
  intro pins s σ H vs0 us Q I r h
  obtain ⟨a, L, rfl, ha, hk, al, so, q⟩ := h
  obtain ⟨es, ep, t, R⟩ := SetK.n (I.hok a _ ha).1 fun p hp => by
    obtain ⟨u, h1, rfl⟩ := List.mem_map.mp hp
    exact key_at I (hk u h1).1 (hk u h1).2.1 (hk u h1).2.2
  rw [Vals.ref1 r]
  obtain ⟨o, at1, exact1, dat⟩ := R.obj
  have many := R.many
  have few := R.few
  refine Calls.call_function_entry kind_sorted plain_sorted entry_sorted (args_sorted1 _) ?_
  unfold Builtin.«sorted»
  refine wpAny_bind (m := checkCount "sorted" 1 1 _) (wpAny_pure ?_)
  refine wpAny_bind (collect_set (A := X.A.in1) (I.ok.hd hc) ⟨o, at1, exact1.1, dat⟩ R.fit (by unfold scanBound; omega) R.tab.ris R.seen fun s1 vs old grew g1 o1 pm => ?_)
  have items : es.toList.map (·.2) = L.map fun p => Value.ref p.2 := by
    rw [R.rows]
    unfold rowsN
    rw [List.map_map, List.map_map]
    rfl
  rw [items] at pm
  obtain ⟨M, pmM, rfl⟩ := perm_lift pm
  have lenM : M.length < 300 := by
    have z := pmM.length_eq
    rw [List.length_map] at few
    omega
  refine wpAny_bind (wpAny_newList ?_ (by rw [List.length_map, sizeLine_eq]; omega))
  have at2 : (s1.heap.push (seqObj "list" (M.map fun p => Value.ref p.2).toArray 0)).get? s1.heap.objs.size = some (seqObj "list" (M.map fun p => Value.ref p.2).toArray 0) := Heap.get?_push_size _ rfl
  have e1 : EachIs (fun (u : Value) (d : PyData) => ∃ p ∈ L, u = Value.ref p.2 ∧ d = p.1) (M.map fun p => Value.ref p.2) (M.map Prod.fst) := by
    have z : ∀ p ∈ M, p ∈ L := fun p hp => pmM.mem_iff.mp hp
    clear pm pmM at2 lenM
    induction M with
    | nil => exact .nil
    | cons p M ih => exact .cons ⟨p, z p List.mem_cons_self, rfl, rfl⟩ (ih fun x hx => z x (List.mem_cons_of_mem _ hx))
  have e2 : EachIs (fun (v : Value) (d : PyData) => ∃ as, Reads (s1.heap.push (seqObj "list" (M.map fun p => Value.ref p.2).toArray 0)) v (id d) as ∧ s1.heap.objs.size ∉ as) (M.map fun p => Value.ref p.2) (M.map Prod.fst) := by
    have z : ∀ p ∈ M, p ∈ L := fun p hp => pmM.mem_iff.mp hp
    clear pm pmM at2 lenM e1
    generalize seqObj "list" (M.map fun p => Value.ref p.2).toArray 0 = new
    induction M with
    | nil => exact .nil
    | cons p M ih =>
      refine .cons ⟨[], PyProof.Rows.Reads.keeps (fun b u e => Heap.get?_push_of_some _ (old b u e)) (is_key I p.1 _ (.ref p.2) (hk p (z p List.mem_cons_self)).1 (hk p (z p List.mem_cons_self)).2.2 rfl).2, fun z => nomatch z⟩ (ih fun x hx => z x (List.mem_cons_of_mem _ hx))
  have pmD := pmM.map Prod.fst
  have al2 : AllAlike (M.map Prod.fst) := fun x hx y hy => al x (pmD.mem_iff.mp hx) y (pmD.mem_iff.mp hy)
  have so2 : Sortable (M.map Prod.fst) := so.imp (fun h d hd => h d (pmD.mem_iff.mp hd)) fun h d hd => h d (pmD.mem_iff.mp hd)
  refine wpAny_bind (wpAny_holding (list_sort_data (enc := id) (s := { s1 with heap := s1.heap.push (seqObj "list" (M.map fun p => Value.ref p.2).toArray 0) }) at2 e1 e2 (by rw [List.map_id]; exact al2) (by rw [List.map_id]; exact so2) (by rw [List.length_map, sizeLine_eq]; omega) (fun d hd => ?_) fun out ho eo => ?_))
  · obtain ⟨u, h1, rfl⟩ := List.mem_map.mp hd
    have z := (hk u (pmM.mem_iff.mp h1)).2.1
    show X.A.in1.units + 1 + u.1.depth < cLine
    rw [Around.in1_units]
    omega
  · obtain ⟨c, at3⟩ := sortedHeap_at (vs := M.map fun p => Value.ref p.2) (out := out.toArray) at2
    obtain ⟨N, hN, eout, eN⟩ := each_pairs eo
    have fresh : H s1.heap.objs.size = none := I.hok.fresh grew
    have old2 : ∀ b u, s.heap.get? b = some u → (sortedHeap (s1.heap.push (seqObj "list" (M.map fun p => Value.ref p.2).toArray 0)) s1.heap.objs.size (M.map fun p => Value.ref p.2) out.toArray).get? b = some u := fun b u e => by
      have z := old b u e
      have lt := Heap.lt_size z
      rw [sortedHeap_old (Nat.ne_of_lt lt) (by rw [size_push']; exact Nat.lt_succ_of_lt lt)]
      exact Heap.get?_push_of_some _ z
    refine wpAny_pure ⟨_, rfl, ?_⟩
    show EP X pins σ Q (Value.ref s1.heap.objs.size) { s1 with heap := sortedHeap (s1.heap.push (seqObj "list" (M.map fun p => Value.ref p.2).toArray 0)) s1.heap.objs.size (M.map fun p => Value.ref p.2) out.toArray }
    generalize sortedHeap (s1.heap.push (seqObj "list" (M.map fun p => Value.ref p.2).toArray 0)) s1.heap.objs.size (M.map fun p => Value.ref p.2) out.toArray = g2 at at3 old2
    have rv : Vals (N.map fun x => V.ref x.2) out := by
      rw [eout, show (N.map fun x => V.ref x.2) = (N.map fun x => x.2).map V.ref by rw [List.map_map]; rfl, show (N.map fun x => Value.ref x.2) = (N.map fun x => x.2).map Value.ref by rw [List.map_map]; rfl]
      exact vals_refs _
    have hlen : (N.map fun x => V.ref x.2).length ≤ sizeLine := by
      rw [rv.length, ho, List.length_map, sizeLine_eq]
      omega
    have J : Inv X pins σ (upd H s1.heap.objs.size (.lst (N.map fun x => V.ref x.2))) { s with heap := g2, gens := s1.gens, drawn := s1.drawn, toks := s1.toks } :=
      I.call (ch := []) (Un.laid old2 grew fresh) (I.hok.laid old2 grew ⟨hlen, out, c, rv, at3⟩) (by rw [g1]; exact I.bare) (fun _ z => nomatch z)
    have e : ({ s1 with heap := g2 } : Shared) = { s with heap := g2, gens := s1.gens, drawn := s1.drawn, toks := s1.toks } := by rw [← o1]
    rw [e]
    exact ⟨.ref _, _, J, rfl, q N _ hN ⟨M, pmM, eN⟩ fresh⟩
end
/-! ### a lambda handed to a def, the tables of other code told on -/
/-- the maker's own table, by its object -/
def TabXO (T : Addr) (ps : Array Value) : HO := .ext fun h => h.get? T = some { cls := .none, data := .fields ps }
def TabK (H : Hp) (T : Addr) (q : Str) : Prop := ∃ ps : Array Value, H T = some (TabXO T ps) ∧ TriplesOk ps.toList ∧ ∀ (p : Pos) (v : Value), codeAmong p ps.toList = some v → ∃ d, v = .ref d ∧ H d = some (LamX.CodeO d q)
theorem tabX_ne {T : Addr} {ps : Array Value} {u : HO} (n : ∀ φ, u ≠ .ext φ) : TabXO T ps ≠ u := fun z => by
  unfold TabXO at z
  exact n _ z.symm
theorem codeX_ne {d : Addr} {q : Str} {u : HO} (n : ∀ φ, u ≠ .ext φ) : LamX.CodeO d q ≠ u := fun z => by
  unfold LamX.CodeO at z
  exact n _ z.symm
theorem TabK.nil {H : Hp} {T : Addr} {q : Str} (h : H T = some (TabXO T #[])) : TabK H T q := ⟨#[], h, by trivial, fun p v e => by
  have z : codeAmong p [] = some v := e
  simp [codeAmong] at z⟩
theorem TabK.grow {H J : Hp} {T : Addr} {q : Str} (h : TabK H T q) (g : Grow H J) : TabK J T q := by
  obtain ⟨ps, h1, h2, h3⟩ := h
  refine ⟨ps, g.at h1 fun x => tabX_ne fun _ z => (by cases z), h2, fun p v e => ?_⟩
  obtain ⟨d, e1, e2⟩ := h3 p v e
  exact ⟨d, e1, g.at e2 fun x => codeX_ne fun _ z => (by cases z)⟩
theorem TabK.keep {H J : Hp} {T p : Addr} {q : Str} {xs : List V} (h : TabK H T q) (hp : H p = some (.lst xs)) (g : Keep p H J) : TabK J T q := by
  obtain ⟨ps, h1, h2, h3⟩ := h
  refine ⟨ps, g.at (ne_of h1 hp (tabX_ne fun _ z => by cases z)) h1 fun x => tabX_ne fun _ z => (by cases z), h2, fun p v e => ?_⟩
  obtain ⟨d, e1, e2⟩ := h3 p v e
  exact ⟨d, e1, g.at (ne_of e2 hp (codeX_ne fun _ z => by cases z)) e2 fun x => codeX_ne fun _ z => (by cases z)⟩
section
variable {K : PySem.W.Frag} {H : Hp} {T : Addr} {ps : Array Value}
theorem seq_offX {a : Addr} {xs : List V} (hT : H T = some (TabXO T ps)) (h : SqL K H a xs) : SqL K (off T H) a xs := by
  rcases h with (h | ⟨o, h⟩) | h
  · exact Or.inl (Or.inl (off_at (ne_of h hT (fun z => tabX_ne (fun _ z => by cases z) z.symm)) h))
  · exact Or.inl (Or.inr ⟨o, off_at (ne_of h hT (fun z => tabX_ne (fun _ z => by cases z) z.symm)) h⟩)
  · exact Or.inr h
theorem tup_offX {a : Addr} {xs : List V} (hT : H T = some (TabXO T ps)) (h : SqT K H a xs) : SqT K (off T H) a xs := by
  rcases h with (h | ⟨o, h⟩) | h
  · exact Or.inl (Or.inl (off_at (ne_of h hT (fun z => tabX_ne (fun _ z => by cases z) z.symm)) h))
  · exact Or.inl (Or.inr ⟨o, off_at (ne_of h hT (fun z => tabX_ne (fun _ z => by cases z) z.symm)) h⟩)
  · exact Or.inr h
mutual
theorem dp_offX (hT : H T = some (TabXO T ps)) : ∀ (d : PyData) (v : V), Dp K H v d → Dp K (off T H) v d
  | .none, _, h => by cases h; exact .non
  | .bool b, _, h => by cases h; exact .bl b
  | .int i, _, h => by cases h; exact .int i
  | .str x, _, h => by cases h; exact .str x
  | .list ds, _, h => by
    cases h with
    | lst h1 h2 => exact .lst (seq_offX hT h1) (dps_offX hT ds _ h2)
  | .tuple ds, _, h => by
    cases h with
    | tup h1 h2 => exact .tup (tup_offX hT h1) (dps_offX hT ds _ h2)
  | .dict _, _, h => by cases h
theorem dps_offX (hT : H T = some (TabXO T ps)) : ∀ (ds : List PyData) (vs : List V), DpAll K H vs ds → DpAll K (off T H) vs ds
  | [], _, h => by cases h; exact .nil
  | d :: ds, _, h => by
    cases h with
    | cons h1 h2 => exact .cons (dp_offX hT d _ h1) (dps_offX hT ds _ h2)
end
end
/-- what stays while the maker's table grows -/
theorem TabK.tup {K : PySem.W.Frag} {H J : Hp} {T a : Addr} {q : Str} {xs : List V} (h : TabK H T q) (k : Keep T H J) (e : SqT K H a xs) : SqT K J a xs := let ⟨_, hT, _⟩ := h; sameT off_in (sameT k.s (tup_offX hT e))
theorem TabK.dp {K : PySem.W.Frag} {H J : Hp} {T : Addr} {q : Str} {v : V} {d : PyData} (h : TabK H T q) (k : Keep T H J) (e : Dp K H v d) : Dp K J v d := let ⟨_, hT, _⟩ := h; dpSame off_in _ _ (dpSame k.s _ _ (dp_offX hT _ _ e))
theorem TabK.dps {K : PySem.W.Frag} {H J : Hp} {T : Addr} {q : Str} {vs : List V} {ds : List PyData} (h : TabK H T q) (k : Keep T H J) (e : DpAll K H vs ds) : DpAll K J vs ds := let ⟨_, hT, _⟩ := h; dpAllSame off_in _ _ (dpAllSame k.s _ _ (dps_offX hT _ _ e))
theorem TabK.lst {H J : Hp} {T a : Addr} {q : Str} {xs : List V} (h : TabK H T q) (k : Keep T H J) (e : H a = some (.lst xs)) : J a = some (.lst xs) := let ⟨_, hT, _⟩ := h; k.at (ne_of e hT (fun z => tabX_ne (fun _ z => by cases z) z.symm)) e
section
variable {X : Cx} {pins : List (Addr × Obj)} {σ : L2.St} {H : Hp} {s : Shared}
/-- behind a new code object: what the heap is -/
def lamHp (H : Hp) (T c : Addr) (q : Str) (qs : Array Value) : Hp := upd (upd H T (TabXO T qs)) c (LamX.CodeO c q)
theorem lamHp_keep {T c : Addr} {q : Str} {ps qs : Array Value} (hT : H T = some (TabXO T ps)) (hc : H c = none) : Keep T H (lamHp H T c q qs) := by
  have at1 : ∀ b u, H b = some u → b ≠ T → lamHp H T c q qs b = some u := fun b u e n => by
    unfold lamHp
    rw [upd_ne (ne_of_none e hc), upd_ne n]
    exact e
  refine ⟨fun b u e => ?_, fun l r e => ?_, fun b x e => ?_⟩
  · obtain ⟨e0, e1, e2⟩ := off_some e
    exact off_at e0 (at1 b u e1 e0) e2
  · rw [hT] at e
    exact absurd (Option.some.inj e) (tabX_ne fun _ z => by cases z)
  · refine ⟨x, at1 b _ e (ne_of e hT fun z => tabX_ne (fun _ z => by cases z) z.symm), id⟩
theorem lamHp_tab {T c : Addr} {q : Str} {ps : Array Value} {pos : Pos} (hT : H T = some (TabXO T ps)) (hc : H c = none) (ok : TriplesOk ps.toList) (all : ∀ (p : Pos) (v : Value), codeAmong p ps.toList = some v → ∃ d, v = .ref d ∧ H d = some (LamX.CodeO d q)) (hn : ∀ d, H d = some (LamX.CodeO d q) → d ≠ T) :
    TabK (lamHp H T c q (ps ++ #[rawInt pos.line, rawInt pos.col, .ref c])) T q := by
  have el : (ps ++ #[rawInt pos.line, rawInt pos.col, Value.ref c]).toList = ps.toList ++ [rawInt pos.line, rawInt pos.col, .ref c] := by simp
  have atC : lamHp H T c q (ps ++ #[rawInt pos.line, rawInt pos.col, .ref c]) c = some (LamX.CodeO c q) := upd_same
  refine ⟨ps ++ #[rawInt pos.line, rawInt pos.col, .ref c], by unfold lamHp; rw [upd_ne (ne_of_none hT hc), upd_same], by rw [el]; exact PySem.TriplesOk_snoc _ _ _ _ ok, fun p v hv => ?_⟩
  rw [el] at hv
  rcases LamX.among_app _ ok hv with old | new
  · obtain ⟨d, d1, d2⟩ := all p v old
    refine ⟨d, d1, ?_⟩
    unfold lamHp
    rw [upd_ne (ne_of_none d2 hc), upd_ne (hn d d2)]
    exact d2
  · exact ⟨c, new, atC⟩
/-- the table is written, its new code object known from now on -/
theorem inv_tabX {T c : Addr} {q : Str} {ps qs : Array Value} {h' : Heap} {t' : Nat} (I : Inv X pins σ H s) (hT : H T = some (TabXO T ps)) (k : ∀ b o, b ≠ T → s.heap.get? b = some o → h'.get? b = some o)
    (hm : h'.get? T = some { cls := .none, data := .fields qs }) (hc : s.heap.objs.size ≤ c) (ho : ∃ (oc : Obj) (vs : Array Value) (t : Tok), h'.get? c = some oc ∧ oc.data = .fields vs ∧ vs[1]? = some (.str q t)) :
    Inv X pins σ (lamHp H T c q qs) { s with heap := h', toks := t' } := by
  have nC : H c = none := I.hok.fresh hc
  have nTc : T ≠ c := ne_of_none hT nC
  have at_ : ∀ b, b ≠ T → b ≠ c → lamHp H T c q qs b = H b := fun b h1 h2 => by unfold lamHp; rw [upd_ne h2, upd_ne h1]
  have fin : ∀ b o, s.heap.get? b = some o → b ≠ c := fun b o e z => by
    rw [z] at e
    exact Nat.lt_irrefl _ (Nat.lt_of_lt_of_le (Heap.lt_size e) hc)
  have other : ∀ b u, H b = some u → (∀ φ, u ≠ .ext φ) → b ≠ T ∧ b ≠ c := fun b u e n => ⟨fun z => by
    rw [z, hT] at e
    exact n _ (Option.some.inj e).symm, ne_of_none e nC⟩
  have nT : ∀ b, H b = none → b ≠ T := fun b e z => by
    rw [z, hT] at e
    cases e
  refine I.un { keep := fun b o e n _ _ => k b o (nT b n) e, slot := fun b o e n _ _ => ⟨o.slots, k b o (nT b n) e⟩, free := fun b o e n _ => by rw [at_ b (nT b n) (fin b o e)]; exact n, there := fun b o e _ => ?_, tups := fun b xs e => ?_, frzs := fun b o u e => ?_, tbls := fun b xs e => ⟨#[], ?_⟩ } fun b u e => ?_
  · by_cases hb : b = T
    · rw [hb]
      exact ⟨_, hm⟩
    · exact ⟨o, k b o hb e⟩
  · have n := other b _ e (fun φ z => by cases z)
    rw [at_ b n.1 n.2]
    exact e
  · have n := other b _ e (fun φ z => by cases z)
    rw [at_ b n.1 n.2]
    exact e
  · have n := other b _ e (fun φ z => by cases z)
    rw [at_ b n.1 n.2, Array.append_empty]
    exact e
  · by_cases hb : b = c
    · rw [hb] at e ⊢
      cases (upd_same : lamHp H T c q qs c = some (LamX.CodeO c q)).symm.trans e
      obtain ⟨oc, vs, t, e1, e2, e3⟩ := ho
      exact ⟨⟨oc, vs, t, e1, e2, e3⟩, ⟨oc, e1⟩, fun h1 h2 ⟨oc, vs, t, a, b, c⟩ st => ⟨oc, vs, t, st _ a, b, c⟩⟩
    · by_cases hb2 : b = T
      · have eT : lamHp H T c q qs T = some (TabXO T qs) := by unfold lamHp; rw [upd_ne nTc, upd_same]
        rw [hb2] at e ⊢
        cases eT.symm.trans e
        exact ⟨hm, ⟨_, hm⟩, fun h1 h2 a st => st _ a⟩
      · rw [at_ b hb2 hb] at e
        refine (I.hok b u e).stay (fun d v hd z => k d v ?_ z) (fun d z => ?_) fun d xs z => ?_
        · rcases hd with z | z
          · rw [z]
            exact hb2
          · exact (other d _ z (fun φ z => by cases z)).1
        · have n := other d _ z (fun φ z => by cases z)
          rw [at_ d n.1 n.2]
          exact z
        · have n := other d _ z (fun φ z => by cases z)
          rw [at_ d n.1 n.2]
          exact z
theorem triples_str {l : List Value} {q : Str} {t : Tok} (h : TriplesOk l) (e : l[1]? = some (.str q t)) : False := by
  unfold TriplesOk at h
  split at h
  · cases e
  · cases e
  · exact h
theorem out_of_frames (I : Inv X pins σ H s) {f : Addr} (h : s.heap.objs.size ≤ f) : f ∉ frs X.stack := fun m => by
  cases List.mem_cons.mp (I.stkSub _ m) with
  | inl e =>
    have lt := I.lt
    rw [← e] at lt
    exact Nat.lt_irrefl _ (Nat.lt_of_lt_of_le lt h)
  | inr e => exact I.nofs h e
theorem lam_make3 {T c : Addr} {q : Str} {params : Arguments} {body : Expr} {scope : Scope} {pos : Pos} {E Q : Value → Shared → Prop} (I : Inv X pins σ H s) (B : LamX.TabB X.base X.mg c T) (code : X.env.code = .ref c) (eq : X.env.qual ++ "<lambda>" = q) (tab : TabK H T q)
    (nodef : defaultsOf params X.env = ([], [])) (cells : ∀ y ∈ scope.names, y.2 = .free → ∃ c, X.env.cells.lookup y.1 = some c)
    (go : ∀ (f d : Addr) (pm ct : Value) (J : Hp) (z : Shared), Inv X pins σ J z → Keep T H J → TabK J T q → J f = none → J d = some (LamX.CodeO d q) → f ∉ frs X.stack →
      z.heap.get? f = some (PySem.W.kla_obj "<lambda>" q params body scope (cloFrom X.env.cells scope.names []) pm d ct) → Q (.ref f) z) :
    wpAny (model X.prog X.w) X.A (eval (.Lambda params body scope pos) X.env) Q E s := by
  subst eq
  obtain ⟨ps, hT, ok, all⟩ := tab
  have oT : s.heap.get? T = some { cls := .none, data := .fields ps } := (I.hok T _ hT).1
  have bT := B.bm.keeps I.bk
  refine PySem.W.kla_eval nodef ?_
  cases found : codeAmong pos ps.toList with
  | some v =>
    obtain ⟨d, rfl, hd⟩ := all pos v found
    refine PySem.W.kla_makeFunctionHit (mg := X.mg) (c := c) (P := T) (ps := ps) (closure_ok cells) I.ok.glob (I.mod.glob.keeps I.bk) code (B.code.keeps I.bk) oT ok found bT fun ct h' tk keep size => ?_
    exact go h'.objs.size d _ ct H _ (I.kept (t' := tk) fun b o e => Heap.get?_push_of_some _ (keep b o e)) (Keep.refl T H) ⟨ps, hT, ok, all⟩ (I.hok.fresh size) hd (out_of_frames I size) (Heap.get?_push_size _ rfl)
  | none =>
    refine PySem.W.kla_makeFunction (mg := X.mg) (c := c) (P := T) (ps := ps) (closure_ok cells) I.ok.glob (I.mod.glob.keeps I.bk) code (B.code.keeps I.bk) oT ok found B.gP bT fun cv ct h' tk keep ge lt rec_ tb => ?_
    obtain ⟨d, oc, vs, t, ed, r1, r2, r3⟩ := rec_
    obtain rfl : cv = d := by cases ed; rfl
    have size : s.heap.objs.size ≤ h'.objs.size := Nat.le_trans ge (Nat.le_of_lt lt)
    have hd : H cv = none := I.hok.fresh ge
    let fo := PySem.W.kla_obj "<lambda>" (X.env.qual ++ "<lambda>") params body scope (cloFrom X.env.cells scope.names []) ((X.mg "__name__").getD .none) cv ct
    have J := inv_tabX (t' := tk) (qs := ps ++ #[rawInt pos.line, rawInt pos.col, .ref cv]) (h' := h'.push fo) I hT (fun b o n e => Heap.get?_push_of_some _ (keep b o n e)) (Heap.get?_push_of_some _ tb) ge ⟨oc, vs, t, Heap.get?_push_of_some _ r1, r2, r3⟩
    have lT : T < h'.objs.size := Nat.lt_of_lt_of_le (Heap.lt_size oT) size
    refine go h'.objs.size cv _ ct _ _ J (lamHp_keep hT hd) (lamHp_tab hT hd ok all fun d e z => ?_) ?_ upd_same (out_of_frames I size) (Heap.get?_push_size _ rfl)
    · rw [z] at e
      obtain ⟨⟨oc, vs, t, e1, e2, e3⟩, _, _⟩ := I.hok T _ e
      rw [oT] at e1
      cases e1
      cases e2
      exact triples_str ok (by rw [Array.getElem?_toList]; exact e3)
    · unfold lamHp
      rw [upd_ne (Nat.ne_of_gt lt), upd_ne (Nat.ne_of_gt lT)]
      exact I.hok.fresh size
end
/-- the def is handed the lambda -/
def tLam3 (T : Addr) (q : Str) (TT : (XK → Hp → VK → Prop) → Hp → VK → Prop) (t : XK → TE) : TE := fun σ H Q => TabK H T q ∧ ∀ J, Keep T H J → TabK J T q → TT (fun E G R => t E σ G R) J Q
theorem pe_lamcall3 {X : Cx} {T c g : Addr} {q x a : Str} {TT : (XK → Hp → VK → Prop) → Hp → VK → Prop} {k : Nat} {pg : Arguments} {bg : List Stmt} {sg : Scope} {dV kV doc pm cdv ct oc : Value} {an od : Option Addr} {osl : Array (Option Value)} {Ng : List Str}
    {params : Arguments} {body : Expr} {scope : Scope} {t : XK → TE} {p lpos pos : Pos} (gl : Gl X x) (mg : X.mg x = some (.ref g)) (kept : PySem.W.keepIn X.K (.ref g) = true)
    (lk : X.K.lookup g = some ⟨oc, od, .func (PySem.W.fnOf x x pg bg sg dV kV doc pm an cdv ct), osl⟩) (hcg : PySem.W.codeIn X.K cdv x = true) (bi : L2.Binds X.K (PySem.W.fnOf x x pg bg sg dV kV doc pm an cdv ct) [a] []) (Sg : FnScope Ng [a] sg) (n0 : Ng[0]? = some a) (vi : Vis sg a)
    (gives : LamX.GivesTo X Ng x sg g cdv bg a q TT) (B : LamX.TabB X.base X.mg c T) (code : X.env.code = .ref c) (eq : X.env.qual ++ "<lambda>" = q) (hr : Room (k + 2) X.A) (L : LamX.LamS X.env.scope scope) (nodef : defaultsOf params X.env = ([], []))
    (nopar : ∀ (q : Str) (cl : List (Str × Addr)) (pm cv ctv : Value), bindArgs (PySem.W.kla_fn "<lambda>" q params body scope cl pm cv ctv) ⟨[], []⟩ = pure [])
    (inside : ∀ (A : Around) (outer : List Env) (s : Shared) (H : Hp) (E : XK) (f d : Addr), Room k (A.deeper (LamX.lamEnv X scope s.heap.objs.size f d)) → PE (LamX.lamCx X A outer s H E scope f d) body (t E))
    (d1 : (x == ("__debug__" : Str)) = false := by decide) (d2 : (a == ("__debug__" : Str)) = false := by decide) (d3 : (a == ("__classdict__" : Str)) = false := by decide) :
    PE X (.Call (.Name x p) [.Lambda params body scope lpos] [] pos) (tLam3 T q TT t) := by
  refine ⟨fun pins s σ H Q I ⟨tab, h⟩ => wpAny_Call_Name_kw (ld_glob I gl mg (PySem.W.callWith_K (h₀ := X.base) I.ok.mod.kin kept ?_ (by rfl) (by rfl)) d1)⟩
  show wpAny _ _ (spliced ((false, eval (.Lambda params body scope lpos) X.env) :: backTo pos (starEach [] X.env))) _ _ s
  refine Calls.spliced_cons (lam_make3 I B code eq tab nodef (L.has I.ok) fun f d pm' ct' J z IJ gr tabJ nf hd nfr hf => Calls.spliced_nil ⟨IJ.kIn, ?_⟩)
  subst eq
  have ran : codeAny (model X.prog X.w) X.A (.call (.ref g) ⟨[.ref f], []⟩) (CR C8.CX0 X.stack X.prog X.w J z Q C8.E0) z := by
    refine LamX.run_ofS (N := Ng) (ps := [a]) (us := [.ref f]) (vs := [.ref f]) lk hcg Sg hr IJ.env0 (bi z [.ref f] IJ.kIn rfl) (.cons rfl .nil) rfl fun room => ?_
    obtain ⟨u, u1, u2⟩ := gives f d z J Q (fun E G R => t E σ G R) (fun W pn xe E p1 p2 tk sub => LamX.pe_act (i := 0) IJ L hf nf nfr (nopar _ _ _ _ _) tk sub room (fun A outer s H rm => inside A outer s H E f d rm) n0 vi d2 d3) hd (h J gr tabJ)
    exact ⟨u, u1.nox, u2⟩
  refine wpAny_call (codeAny_mono ran fun r w2 hq => ?_)
  rcases r with e | fl
  · exact (show False from hq).elim
  · cases fl with
    | ret u => exact IJ.after hq
    | _ => exact False.elim hq
/-- an exception in the air stands in a frame of so many names -/
theorem takes_len {X : Cx} {W : WX} (tk : Takes X W) : Takes X (fun cls d σ H => σ.length = X.N.length → W cls d σ H) := fun u s' ⟨a, B, sI, pins, σ, H, cls, d, e, I, r1, r2, r3, r4, r5, r6, w⟩ => tk u s' ⟨a, B, sI, pins, σ, H, cls, d, e, I, r1, r2, r3, r4, r5, r6, w I.len⟩
/-! ### the end of a law that makes lambdas itself: its own code object is told -/
def LawDoesU (P : Program) (w : World) (K : PySem.W.Frag) (mg : Str → Option Value) (base : Heap) (st : Stmt) (N : List Str) (f : Addr) (cs : List (Addr × Addr)) (cl pl : Addr) : Prop :=
  ∀ (s : Shared) (H : Hp) (a : Addr) (ns : List Int), ns.length ≤ 63 → (∀ p ∈ cs, p.2 ≠ pl → H p.2 = some (.tbl #[])) → H pl = some (TabXO pl #[]) → SqL K H a (ns.map V.int) →
    ∃ t, PSs (cxOf CX0 P w K mg base N "law" (defScope st) f (.ref cl) callerA [] s H E0).nox (defBody st) t ∧
      t { nx := fun _ _ => False, rt := fun v J => v = .bl true ∧ ∃ ps, J pl = some (TabXO pl ps) } (start N [.ref a]) H
theorem law_atU {P : Program} {w : World} {K : PySem.W.Frag} {mg : Str → Option Value} {base : Heap} {st : Stmt} {N : List Str} {f a : Addr} {fd : FuncData} {s : Shared} {H : Hp} {ns : List Int} {x : Str} {cs : List (Addr × Addr)} {cl pl : Addr}
    (F : Fun K "law" "law" st f fd) (hcl : fd.code = .ref cl) (S : FnScope N [x] (defScope st)) (hr : Room 60 callerA) (D : LawDoesU P w K mg base st N f cs cl pl) (hT : ∀ p ∈ cs, p.2 ≠ pl → H p.2 = some (.tbl #[])) (hPl : H pl = some (TabXO pl #[]))
    (e0 : Env0 P w K mg base callerA [] s H) (hb : BindsTo s fd ⟨[.ref a], []⟩ [(x, .ref a)]) (hl : ns.length ≤ 63) (hS : SqL K H a (ns.map V.int)) :
    codeAny (model P w) callerA (.call (.ref f) ⟨[.ref a], []⟩) (CR CX0 [] P w H s (fun v J => v = .bl true ∧ ∃ ps, J pl = some (TabXO pl ps)) E0) s := by
  obtain ⟨oc, od, kV, doc, pm, an, cdv, ct, osl, rfl, lk, hcd⟩ := F.ex
  have hcl' : cdv = .ref cl := hcl
  subst hcl'
  have heap0 : K.In s.heap := e0.mod.kin.keeps fun b o e => (e0.bs b o e).1
  have lim0 := e0.mod.nolimit.keeps fun b o e => (e0.bs b o e).1
  have vals : Vals [V.ref a] [Value.ref a] := .cons rfl .nil
  refine codeAny_call_function hr.depth (heap0 _ _ lk) rfl S.co S.gen rfl (PySem.W.codeRec_of heap0 hcd) (hb _ _ _ _ ?_)
  refine wpAny_newFunctionEnv_cells S.kind (fun y hy => ?_) fun env he s1 ic => ?_
  · have ey : y = (x, Value.ref a) := List.mem_singleton.mp hy
    rw [ey]
    rcases S.par x (List.mem_singleton.mpr rfl) with q | q
    · exact Or.inl q
    · exact Or.inr ⟨q, PySem.W.cellsFrom_some _ _ _ (Or.inl q)⟩
  · subst he
    refine ⟨lim0.keeps ic.toInCall.keep, codeAny_func ?_⟩
    obtain ⟨t, pt, q⟩ := D s H a ns hl hT hPl hS
    have I := inv_start (CX := CX0) (E := E0) (cd := .ref cl) (f := f) (qual := "law") S hr.hd e0 rfl vals ic
    refine wpAny_mono (pt.nox.run [] s1 _ H _ I q) ?_ ?_
    · intro fl s2 h
      cases fl with
      | ret u =>
        obtain ⟨v, _, H2, J, rv, e⟩ := h
        exact ⟨v, H2, J.os, J.bare, J.base, J.hok, rv, e⟩
      | next => exact (let ⟨_, _, _, z⟩ := h; False.elim z)
      | brk => exact (let ⟨_, _, _, z⟩ := h; False.elim z)
      | cont => exact (let ⟨_, _, _, z⟩ := h; False.elim z)
    · exact fun _ _ z => z
theorem law_walkU {l : PySem.W.OpenLaw} {q : Program} {loose : List Str} {XP : (Str → Option Value) → Heap → Prop} {YP : World → Heap → Prop} {d : DefRec} {K : Params → PySem.W.Frag} {x : Str} {st : Stmt} {N : List Str} {nms : List Str}
    (hn : l.most = some 63) (hdf : d.params.defaults = []) (S : FnScope N [x] (defScope st)) (hY : ∀ (w : World) (h : Heap), YP w h → (K w.params).In h) (hrec : ∀ nm ∈ nms, ((recsOf q).any fun e => e.name == nm) = true)
    (Fm : ∀ (w : World) (mg : Str → Option Value) (fa : Addr) (h : Heap), (K w.params).In h → h.Ns mainGlobals mg → mg d.name = some (.ref fa) → (∀ nm ∈ nms, CodeKnown mg h nm) →
      ∃ (fd : FuncData) (cs : List (Addr × Addr)) (cl pl : Addr), Fun (K w.params) "law" "law" st fa fd ∧ fd.code = .ref cl ∧ (cl, pl) ∈ cs ∧ (∀ (s : Shared) (u : Value), BindsTo s fd ⟨[u], []⟩ [(x, u)]) ∧
        (∀ p ∈ cs, h.get? p.2 = some { cls := .none, data := .fields #[] } ∧ (K w.params).lookup p.2 = none ∧ PySem.W.CodeHd h p.1 p.2 ∧ h.IsCode p.1 p.2 #[] ∧ h.TableAt p.1 p.2 #[]) ∧
        ∀ base : Heap, (K w.params).In base → (∀ p ∈ cs, GxR.TabB base mg p.1 p.2) → LawDoesU l.prog w (K w.params) mg base st N fa cs cl pl) :
    PySem.W.WalkO q loose XP YP l.row.toRowW d [] (fun f vs => PySem.call f vs) := by
  refine Att.attach_call hn hdf fun w s₀ s1 mg mb fa o pm cd doc a vs ns G Y ho hd hcd hmg hobj hints hlen hgen => ?_
  have hK := hY w _ Y
  have known : ∀ nm ∈ nms, CodeKnown mg s1.heap nm := fun nm hm => by
    obtain ⟨e, he, en⟩ := List.any_eq_true.mp (hrec nm hm)
    have en' : e.name = nm := beq_iff_eq.mp en
    rw [← en']
    exact G.T.tab e he
  obtain ⟨fd, cs, cl, pl, F, hcl, hpl, hbind, hcs, D⟩ := Fm w mg fa _ hK G.T.g hmg known
  have rv := vals_ints hints
  let u : HO := .frz { cls := .type "list", data := .seq vs.toArray } (.lst (ns.map V.int))
  let free : Bool := ((K w.params).lookup a).isNone
  let H : Hp := fun b => if b = pl then some (TabXO pl #[]) else tabsAt cs (onlyAt a u free) b
  have isT : ∀ b, b ∈ cs.map (·.2) → s1.heap.get? b = some { cls := .none, data := .fields #[] } ∧ (K w.params).lookup b = none := fun b hb => by
    obtain ⟨p, hp, e⟩ := List.mem_map.mp hb
    rw [← e]
    exact ⟨(hcs p hp).1, (hcs p hp).2.1⟩
  have aT : a ∉ cs.map (·.2) := fun z => by
    have e := (isT a z).1
    rw [hobj] at e
    cases e
  have plT : pl ∈ cs.map (·.2) := List.mem_map.mpr ⟨_, hpl, rfl⟩
  have aP : a ≠ pl := fun z => aT (z ▸ plT)
  have cases3 : ∀ b, H b = none ∨ (b ∈ cs.map (·.2) ∧ H b = some (.tbl #[])) ∨ (b = a ∧ free = true ∧ H b = some u) ∨ (b = pl ∧ H b = some (TabXO pl #[])) := fun b => by
    by_cases hp : b = pl
    · exact Or.inr (Or.inr (Or.inr ⟨hp, if_pos hp⟩))
    by_cases hb : b ∈ cs.map (·.2)
    · exact Or.inr (Or.inl ⟨hb, (if_neg hp).trans (if_pos hb)⟩)
    · rcases onlyAt_cases a u free b with n | ⟨e, fr, y⟩
      · exact Or.inl ((if_neg hp).trans ((if_neg hb).trans n))
      · exact Or.inr (Or.inr (Or.inl ⟨e, fr, (if_neg hp).trans ((if_neg hb).trans y)⟩))
  have lenV : vs.length = ns.length := hints.length
  have small : ns.length ≤ sizeLine := Nat.le_trans hlen (by decide)
  have hS : SqL (K w.params) H a (ns.map V.int) := by
    cases e : (K w.params).lookup a with
    | none =>
      refine Or.inl (Or.inr ⟨{ cls := .type "list", data := .seq vs.toArray }, ?_⟩)
      show (if a = pl then some (TabXO pl #[]) else tabsAt cs (onlyAt a u free) a) = some u
      rw [if_neg aP]
      unfold tabsAt
      rw [if_neg aT]
      exact if_pos ⟨rfl, by show ((K w.params).lookup a).isNone = true; rw [e]; rfl⟩
    | some ob =>
      have e1 := (hK a ob e).symm.trans hobj
      cases Option.some.inj e1
      exact Or.inr ⟨_, vs.toArray, _, e, rfl, rfl, rfl, by rw [List.size_toArray, lenV]; exact small, by rw [List.toList_toArray]; exact rv⟩
  have hHok : HOk l.prog w H s1.heap := fun b z e => by
    rcases cases3 b with n | ⟨hb, y⟩ | ⟨rfl, _, y⟩ | ⟨eb, y⟩
    · cases n.symm.trans e
    · cases y.symm.trans e
      exact (isT b hb).1
    · cases y.symm.trans e
      exact ⟨hobj, by rw [List.length_map]; exact small, vs, _, rv, hobj⟩
    · cases y.symm.trans e
      rw [eb]
      exact ⟨(isT pl plT).1, ⟨_, (isT pl plT).1⟩, fun h1 h2 z st => st _ z⟩
  have isN : ∀ {b : Addr} {ob : Obj}, s1.heap.get? b = some ob → (∀ its n, ob.data ≠ .seq its n) → ob.data ≠ .fields #[] → H b = none := fun {b ob} e nd nf => by
    rcases cases3 b with n | ⟨hb, _⟩ | ⟨rfl, _, _⟩ | ⟨eb, _⟩
    · exact n
    · cases (isT b hb).1.symm.trans e
      exact absurd rfl nf
    · cases hobj.symm.trans e
      exact absurd rfl (nd _ _)
    · rw [eb] at e
      cases (isT pl plT).1.symm.trans e
      exact absurd rfl nf
  have nsK : ∀ {b : Addr} {m : Str → Option Value}, s1.heap.Ns b m → (hidT s1.heap H).Ns b m := by
    rintro b m ⟨ob, es, ep, e, dt, r⟩
    exact ⟨ob, es, ep, hidT_get e (isN e (fun its n z => nomatch dt.symm.trans z) fun z => nomatch dt.symm.trans z), dt, r⟩
  have inB : (K w.params).In (hidT s1.heap H) := fun b ob e => hidT_get (hK b ob e) (by
    rcases cases3 b with n | ⟨hb, _⟩ | ⟨rfl, fr, _⟩ | ⟨eb, _⟩
    · exact n
    · rw [(isT b hb).2] at e
      cases e
    rotate_left
    · rw [eb, (isT pl plT).2] at e
      cases e
    · have fr' : ((K w.params).lookup b).isNone = true := fr
      rw [e] at fr'
      cases fr')
  have hM : Mod (K w.params) mg (hidT s1.heap H) := ⟨inB, nsK G.T.g, ⟨mb, nsK G.T.b, G.T.builtins⟩, let ⟨mc, h1, h2⟩ := G.T.nolimit; ⟨mc, nsK h1, h2⟩⟩
  have TB : ∀ p ∈ cs, GxR.TabB (hidT s1.heap H) mg p.1 p.2 := fun p hp => by
    obtain ⟨t1, t2, t3, _⟩ := hcs p hp
    refine ⟨?_, ?_, fun z => ?_⟩
    · obtain ⟨ob, us, file, tf, flags, tg, inF, text, tt, e1, r1, r2, r3, r⟩ := t3
      refine ⟨ob, us, file, tf, flags, tg, inF, text, tt, hidT_get e1 (isN e1 (fun its n z => ?_) fun z => ?_), r1, r2, r3, r⟩
      · rw [r2] at z
        cases z
      · rw [r2] at z
        cases z
        simp at r3
    · obtain ⟨bm, ob, b1, b2, b3, b4, b5, b6⟩ := G.T.bmain
      have nG : bm ≠ mainGlobals := fun z => by
        obtain ⟨o', es, ep, e, hd', _⟩ := G.T.g
        rw [z, e] at b3
        cases b3
        rw [hd'] at b6
        cases b6
      have nP : bm ≠ p.2 := fun z => by
        rw [z, t1] at b3
        cases b3
        cases b6
      refine ⟨bm, ob, b1, b2, nG, nP, hidT_get b3 (isN b3 (fun its n z => ?_) fun z => ?_), b4, b5, b6⟩
      · rw [b6] at z
        cases z
      · rw [b6] at z
        cases z
    · obtain ⟨o', es, ep, e, hd', _⟩ := G.T.g
      rw [z, t1] at e
      cases e
      cases hd'
  have e0 : Env0 l.prog w (K w.params) mg (hidT s1.heap H) callerA [] s1 H :=
    { frames := rfl, mod := hM, bs := fun b ob e => of_hidT e, bsz := Nat.le_of_eq (hidT_size _ _), funs := True.intro, frf := fun b hb => (List.not_mem_nil hb).elim, hok := hHok, bare := .of_eq hgen }
  have hT : ∀ p ∈ cs, p.2 ≠ pl → H p.2 = some (.tbl #[]) := fun p hp n => (if_neg n).trans (if_pos (List.mem_map.mpr ⟨p, hp, rfl⟩))
  have hPl : H pl = some (TabXO pl #[]) := if_pos rfl
  refine codeAny_mono (law_atU F hcl S ⟨rfl, by decide, by decide⟩ (D _ inB TB) hT hPl e0 (hbind s1 (.ref a)) hlen hS) fun r s2 h => ?_
  cases r with
  | error e => exact False.elim h
  | ok fl =>
    cases fl with
    | next => exact False.elim h
    | brk => exact False.elim h
    | cont => exact False.elim h
    | ret v0 =>
      obtain ⟨v, H2, os, bare, un, hok2, r2, ev⟩ := h
      obtain ⟨ev, psE, hE⟩ := (show v = .bl true ∧ ∃ ps, H2 pl = some (TabXO pl ps) from ev)
      have ev' : v = .bl true := ev
      rw [ev'] at r2
      have e3 : v0 = Value.bool true := r2
      rw [e3]
      have key : ∀ b ob, b ∉ cs.map (·.2) → s1.heap.get? b = some ob → s2.heap.get? b = some ob := fun b ob nb e => by
        rcases cases3 b with n | ⟨hb, _⟩ | ⟨rfl, _, y⟩ | ⟨eb, _⟩
        · exact un.keep b ob e n List.not_mem_nil List.not_mem_nil
        · exact absurd hb nb
        rotate_left
        · exact absurd plT (eb ▸ nb)
        · have k2 := hok2 b _ (un.frzs b _ _ y)
          cases hobj.symm.trans e
          exact k2.1
      have grown : ∀ p ∈ cs, ∃ more : Array Value, s2.heap.get? p.2 = some { cls := .none, data := .fields more } := fun p hp => by
        by_cases n : p.2 = pl
        · rw [n]
          exact ⟨psE, (hok2 pl _ hE).1⟩
        obtain ⟨more, z⟩ := un.tbls p.2 #[] (hT p hp n)
        exact ⟨_, hok2 p.2 _ z⟩
      refine ⟨rfl, ⟨fun b ob e => ?_, fun b ob e => ?_⟩, os, bare⟩
      · by_cases hb : b ∈ cs.map (·.2)
        · obtain ⟨p, hp, ep⟩ := List.mem_map.mp hb
          obtain ⟨more, hm⟩ := grown p hp
          rw [← ep] at e ⊢
          obtain ⟨t1, _, t3, _⟩ := hcs p hp
          rw [t1] at e
          cases e
          exact Or.inr (Or.inl ⟨(t3.tab t1).isCodeTable, rfl, #[], more, rfl, by rw [Array.empty_append]; exact hm⟩)
        · exact Or.inl (key b ob hb e)
      · by_cases hb : b ∈ cs.map (·.2)
        · obtain ⟨p, hp, ep⟩ := List.mem_map.mp hb
          obtain ⟨more, hm⟩ := grown p hp
          rw [← ep]
          exact ⟨_, hm⟩
        · exact ⟨ob, key b ob hb e⟩
def topAt (i : Nat) : Stmt := PySem.Challenge.pw_sentnext_k59_long_logs.main.body.getD i (.Pass ⟨0, 0, 0, 0⟩)
abbrev s_whole : Stmt := topAt 4
abbrev s_changes_of : Stmt := topAt 6
abbrev s_is_course : Stmt := topAt 7
abbrev s_heads_back : Stmt := topAt 8
abbrev s_named_by : Stmt := topAt 9
abbrev s_hold_of : Stmt := topAt 11
abbrev s_beginnings : Stmt := topAt 12
abbrev s_turns : Stmt := topAt 13
abbrev s_ago_of : Stmt := topAt 17
abbrev s_pasts_at_first : Stmt := topAt 18
abbrev s_ago_later : Stmt := topAt 19
abbrev s_pasts_later : Stmt := topAt 20
abbrev s_may_be_told : Stmt := topAt 21
abbrev s_pasts_behind : Stmt := topAt 22
abbrev s_may_head : Stmt := topAt 23
abbrev s_last_change : Stmt := topAt 24
abbrev s_deck : Stmt := topAt 26
abbrev s_draw : Stmt := topAt 27
abbrev s_one : Stmt := topAt 28
abbrev s_power : Stmt := topAt 29
abbrev s_house : Stmt := topAt 30
abbrev s_rest_kept : Stmt := topAt 31
abbrev s_course : Stmt := topAt 32
abbrev s_names : Stmt := topAt 33
abbrev s_said : Stmt := topAt 34
abbrev s_log : Stmt := topAt 35
abbrev s_begun : Stmt := topAt 36
abbrev s_next_worlds : Stmt := topAt 37
abbrev s_worlds : Stmt := topAt 38
abbrev s_due : Stmt := topAt 39
abbrev s_called : Stmt := topAt 40
abbrev s_law : Stmt := topAt 41
theorem sc_whole : FnScope ["value", "low", "high"] ["value", "low", "high"] (defScope s_whole) :=
  ⟨rfl, rfl, rfl, by decide +kernel, rfl, by decide +kernel, by decide +kernel⟩
theorem sc_changes_of : FnScope ["course"] ["course"] (defScope s_changes_of) :=
  ⟨rfl, rfl, rfl, by decide +kernel, rfl, by decide +kernel, by decide +kernel⟩
theorem sc_is_course : FnScope ["house", "value", "servers", "rest", "_", "head", "changes", "soon", "late"] ["house", "value"] (defScope s_is_course) :=
  ⟨rfl, rfl, rfl, by decide +kernel, rfl, by decide +kernel, by decide +kernel⟩
theorem sc_heads_back : FnScope ["house", "course", "moment", "lag"] ["house", "course", "moment"] (defScope s_heads_back) :=
  ⟨rfl, rfl, rfl, by decide +kernel, rfl, by decide +kernel, by decide +kernel⟩
theorem sc_named_by : FnScope ["heads", "server", "named", "head"] ["heads", "server"] (defScope s_named_by) :=
  ⟨rfl, rfl, rfl, by decide +kernel, rfl, by decide +kernel, by decide +kernel⟩
theorem sc_hold_of : FnScope ["house", "course", "changes", "ago"] ["house", "course"] (defScope s_hold_of) :=
  ⟨rfl, rfl, rfl, by decide +kernel, rfl, by decide +kernel, by decide +kernel⟩
theorem sc_beginnings : FnScope ["house", "servers", "_", "lag", "rows", "row", "head"] ["house"] (defScope s_beginnings) :=
  ⟨rfl, rfl, rfl, by decide +kernel, rfl, by decide +kernel, by decide +kernel⟩
theorem sc_turns : FnScope ["house", "heads", "hold", "servers", "rest", "_", "older"] ["house", "heads", "hold"] (defScope s_turns) :=
  ⟨rfl, rfl, rfl, by decide +kernel, rfl, by decide +kernel, by decide +kernel⟩
theorem sc_ago_of : FnScope ["course", "changes"] ["course"] (defScope s_ago_of) :=
  ⟨rfl, rfl, rfl, by decide +kernel, rfl, by decide +kernel, by decide +kernel⟩
theorem sc_pasts_at_first : FnScope ["house", "lag", "course"] ["house"] (defScope s_pasts_at_first) :=
  ⟨rfl, rfl, rfl, by decide +kernel, rfl, by decide +kernel, by decide +kernel⟩
theorem sc_ago_later : FnScope ["ago", "changes"] ["ago", "changes"] (defScope s_ago_later) :=
  ⟨rfl, rfl, rfl, by decide +kernel, rfl, by decide +kernel, by decide +kernel⟩
theorem sc_pasts_later : FnScope ["house", "pasts", "heads", "hold", "ago", "row", "stays"] ["house", "pasts"] (defScope s_pasts_later) :=
  ⟨rfl, rfl, rfl, by decide +kernel, rfl, by decide +kernel, by decide +kernel⟩
theorem sc_may_be_told : FnScope ["heads", "pair", "server", "name"] ["heads", "pair"] (defScope s_may_be_told) :=
  ⟨rfl, rfl, rfl, by decide +kernel, rfl, by decide +kernel, by decide +kernel⟩
theorem sc_pasts_behind : FnScope ["house", "log", "pasts", "number", "pair", "fitting", "past"] ["house", "log"] (defScope s_pasts_behind) :=
  ⟨rfl, rfl, rfl, by decide +kernel, rfl, by decide +kernel, by decide +kernel⟩
theorem sc_may_head : FnScope ["house", "log", "heads", "_"] ["house", "log"] (defScope s_may_head) :=
  ⟨rfl, rfl, rfl, by decide +kernel, rfl, by decide +kernel, by decide +kernel⟩
theorem sc_last_change : FnScope ["house", "log", "agos", "_", "ago", "changed"] ["house", "log"] (defScope s_last_change) :=
  ⟨rfl, rfl, rfl, by decide +kernel, rfl, by decide +kernel, by decide +kernel⟩
theorem sc_deck : FnScope ["_law_script"] ["_law_script"] (defScope s_deck) :=
  ⟨rfl, rfl, rfl, by decide +kernel, rfl, by decide +kernel, by decide +kernel⟩
theorem sc_draw : FnScope ["_law_deck_here", "_law_many", "_law_found", "_law_cell", "_law_mixed"] ["_law_deck_here", "_law_many"] (defScope s_draw) :=
  ⟨rfl, rfl, rfl, by decide +kernel, rfl, by decide +kernel, by decide +kernel⟩
theorem sc_one : FnScope ["_law_deck_here", "_law_items"] ["_law_deck_here", "_law_items"] (defScope s_one) :=
  ⟨rfl, rfl, rfl, by decide +kernel, rfl, by decide +kernel, by decide +kernel⟩
theorem sc_power : FnScope ["_law_servers", "_law_lag", "_law_found", "_law_k"] ["_law_servers", "_law_lag"] (defScope s_power) :=
  ⟨rfl, rfl, rfl, by decide +kernel, rfl, by decide +kernel, by decide +kernel⟩
theorem sc_house : FnScope ["_law_deck_here", "_law_room", "_law_servers", "_law_fits", "_law_lag"] ["_law_deck_here", "_law_room"] (defScope s_house) :=
  ⟨rfl, rfl, rfl, by decide +kernel, rfl, by decide +kernel, by decide +kernel⟩
theorem sc_rest_kept : FnScope ["_law_course_here", "_law_rest", "_law_some", "_law_moment", "_law_one_here", "_law_other"] ["_law_course_here", "_law_rest"] (defScope s_rest_kept) :=
  ⟨rfl, rfl, rfl, by decide +kernel, rfl, by decide +kernel, by decide +kernel⟩
theorem sc_course : FnScope ["_law_deck_here", "_law_house_here", "_law_many", "_law_found", "_law_often", "_law_k", "_law_head"] ["_law_deck_here", "_law_house_here", "_law_many"] (defScope s_course) :=
  ⟨rfl, rfl, rfl, by decide +kernel, rfl, by decide +kernel, by decide +kernel⟩
theorem sc_names : FnScope ["_law_house_here", "_law_course_here", "_law_moment", "_law_server", "_law_found", "_law_here"] ["_law_house_here", "_law_course_here", "_law_moment", "_law_server"] (defScope s_names) :=
  ⟨rfl, rfl, rfl, by decide +kernel, rfl, by decide +kernel, by decide +kernel⟩
theorem sc_said : FnScope ["_law_heads", "_law_server", "_law_found"] ["_law_heads", "_law_server"] (defScope s_said) :=
  ⟨rfl, rfl, rfl, by decide +kernel, rfl, by decide +kernel, by decide +kernel⟩
theorem sc_log : FnScope ["_law_deck_here", "_law_house_here", "_law_many", "_law_course_here", "_law_found", "_law_k", "_law_server", "_law_some"] ["_law_deck_here", "_law_house_here", "_law_many"] (defScope s_log) :=
  ⟨rfl, rfl, rfl, by decide +kernel, rfl, by decide +kernel, by decide +kernel⟩
theorem sc_begun : FnScope ["_law_house_here", "_law_some", "_law_found", "_law_k", "_law_longer", "_law_course_here", "_law_head", "_law_changed", "_law_moment", "_law_age"] ["_law_house_here"] (defScope s_begun) :=
  ⟨rfl, rfl, rfl, by decide +kernel, rfl, by decide +kernel, by decide +kernel⟩
theorem sc_next_worlds : FnScope ["_law_house_here", "_law_worlds_here", "_law_found", "_law_heads", "_law_age", "_law_head"] ["_law_house_here", "_law_worlds_here"] (defScope s_next_worlds) :=
  ⟨rfl, rfl, rfl, by decide +kernel, rfl, by decide +kernel, by decide +kernel⟩
theorem sc_worlds : FnScope ["_law_house_here", "_law_log_here", "_law_worlds_here", "_law_at", "_law_server", "_law_name", "_law_world"] ["_law_house_here", "_law_log_here"] (defScope s_worlds) :=
  ⟨rfl, rfl, rfl, by decide +kernel, rfl, by decide +kernel, by decide +kernel⟩
theorem sc_due : FnScope ["_law_house_here", "_law_log_here", "_law_worlds_here", "_law_none_at", "_law_ages", "_law_heads", "_law_age", "_law_real", "_law_pair"] ["_law_house_here", "_law_log_here"] (defScope s_due) :=
  ⟨rfl, rfl, rfl, by decide +kernel, rfl, by decide +kernel, by decide +kernel⟩
theorem sc_called : FnScope ["_law_call", "e"] ["_law_call"] (defScope s_called) :=
  ⟨rfl, rfl, rfl, by decide +kernel, rfl, by decide +kernel, by decide +kernel⟩
theorem sc_law : FnScope ["_law_script", "_law_deck_here", "_law_turn", "_law_house_here", "_law_log_here", "_law_held", "_law_found"] ["_law_script"] (defScope s_law) :=
  ⟨rfl, rfl, rfl, by decide +kernel, rfl, by decide +kernel, by decide +kernel⟩
def clsBody : Stmt → List Stmt
  | .ClassDef _ _ _ body _ _ _ _ _ _ _ => body
  | _ => []
abbrev s_NoCourse_init : Stmt := (clsBody (topAt 2)).getD 0 (.Pass ⟨0, 0, 0, 0⟩)
theorem sc_NoCourse_init : FnScope ["self", "number"] ["self", "number"] (defScope s_NoCourse_init) :=
  ⟨rfl, rfl, rfl, by decide +kernel, rfl, by decide +kernel, by decide +kernel⟩
structure Txt (K : PySem.W.Frag) (mg : Str → Option Value) where
  c_law : Addr
  p_law : Addr
  a_whole : Addr
  d_whole : FuncData
  F_whole : Fun K "whole" "whole" s_whole a_whole d_whole
  g_whole : mg "whole" = some (.ref a_whole)
  b_whole : Binds K d_whole ["value", "low", "high"] []
  a_changes_of : Addr
  d_changes_of : FuncData
  F_changes_of : Fun K "changes_of" "changes_of" s_changes_of a_changes_of d_changes_of
  g_changes_of : mg "changes_of" = some (.ref a_changes_of)
  b_changes_of : Binds K d_changes_of ["course"] []
  c_changes_of : Addr
  p_changes_of : Addr
  h_changes_of : d_changes_of.code = .ref c_changes_of
  n_changes_of : p_changes_of ≠ p_law
  a_is_course : Addr
  d_is_course : FuncData
  F_is_course : Fun K "is_course" "is_course" s_is_course a_is_course d_is_course
  g_is_course : mg "is_course" = some (.ref a_is_course)
  b_is_course : Binds K d_is_course ["house", "value"] []
  a_heads_back : Addr
  d_heads_back : FuncData
  F_heads_back : Fun K "heads_back" "heads_back" s_heads_back a_heads_back d_heads_back
  g_heads_back : mg "heads_back" = some (.ref a_heads_back)
  b_heads_back : Binds K d_heads_back ["house", "course", "moment"] []
  c_heads_back : Addr
  p_heads_back : Addr
  h_heads_back : d_heads_back.code = .ref c_heads_back
  n_heads_back : p_heads_back ≠ p_law
  a_named_by : Addr
  d_named_by : FuncData
  F_named_by : Fun K "named_by" "named_by" s_named_by a_named_by d_named_by
  g_named_by : mg "named_by" = some (.ref a_named_by)
  b_named_by : Binds K d_named_by ["heads", "server"] []
  a_hold_of : Addr
  d_hold_of : FuncData
  F_hold_of : Fun K "hold_of" "hold_of" s_hold_of a_hold_of d_hold_of
  g_hold_of : mg "hold_of" = some (.ref a_hold_of)
  b_hold_of : Binds K d_hold_of ["house", "course"] []
  a_beginnings : Addr
  d_beginnings : FuncData
  F_beginnings : Fun K "beginnings" "beginnings" s_beginnings a_beginnings d_beginnings
  g_beginnings : mg "beginnings" = some (.ref a_beginnings)
  b_beginnings : Binds K d_beginnings ["house"] []
  a_turns : Addr
  d_turns : FuncData
  F_turns : Fun K "turns" "turns" s_turns a_turns d_turns
  g_turns : mg "turns" = some (.ref a_turns)
  b_turns : Binds K d_turns ["house", "heads", "hold"] []
  c_turns : Addr
  p_turns : Addr
  h_turns : d_turns.code = .ref c_turns
  n_turns : p_turns ≠ p_law
  a_ago_of : Addr
  d_ago_of : FuncData
  F_ago_of : Fun K "ago_of" "ago_of" s_ago_of a_ago_of d_ago_of
  g_ago_of : mg "ago_of" = some (.ref a_ago_of)
  b_ago_of : Binds K d_ago_of ["course"] []
  a_pasts_at_first : Addr
  d_pasts_at_first : FuncData
  F_pasts_at_first : Fun K "pasts_at_first" "pasts_at_first" s_pasts_at_first a_pasts_at_first d_pasts_at_first
  g_pasts_at_first : mg "pasts_at_first" = some (.ref a_pasts_at_first)
  b_pasts_at_first : Binds K d_pasts_at_first ["house"] []
  a_ago_later : Addr
  d_ago_later : FuncData
  F_ago_later : Fun K "ago_later" "ago_later" s_ago_later a_ago_later d_ago_later
  g_ago_later : mg "ago_later" = some (.ref a_ago_later)
  b_ago_later : Binds K d_ago_later ["ago", "changes"] []
  a_pasts_later : Addr
  d_pasts_later : FuncData
  F_pasts_later : Fun K "pasts_later" "pasts_later" s_pasts_later a_pasts_later d_pasts_later
  g_pasts_later : mg "pasts_later" = some (.ref a_pasts_later)
  b_pasts_later : Binds K d_pasts_later ["house", "pasts"] []
  a_may_be_told : Addr
  d_may_be_told : FuncData
  F_may_be_told : Fun K "may_be_told" "may_be_told" s_may_be_told a_may_be_told d_may_be_told
  g_may_be_told : mg "may_be_told" = some (.ref a_may_be_told)
  b_may_be_told : Binds K d_may_be_told ["heads", "pair"] []
  a_pasts_behind : Addr
  d_pasts_behind : FuncData
  F_pasts_behind : Fun K "pasts_behind" "pasts_behind" s_pasts_behind a_pasts_behind d_pasts_behind
  g_pasts_behind : mg "pasts_behind" = some (.ref a_pasts_behind)
  b_pasts_behind : Binds K d_pasts_behind ["house", "log"] []
  a_may_head : Addr
  d_may_head : FuncData
  F_may_head : Fun K "may_head" "may_head" s_may_head a_may_head d_may_head
  g_may_head : mg "may_head" = some (.ref a_may_head)
  b_may_head : Binds K d_may_head ["house", "log"] []
  a_last_change : Addr
  d_last_change : FuncData
  F_last_change : Fun K "last_change" "last_change" s_last_change a_last_change d_last_change
  g_last_change : mg "last_change" = some (.ref a_last_change)
  b_last_change : Binds K d_last_change ["house", "log"] []
  a_deck : Addr
  d_deck : FuncData
  F_deck : Fun K "_law_deck" "_law_deck" s_deck a_deck d_deck
  g_deck : mg "_law_deck" = some (.ref a_deck)
  b_deck : Binds K d_deck ["_law_script"] []
  a_draw : Addr
  d_draw : FuncData
  F_draw : Fun K "_law_draw" "_law_draw" s_draw a_draw d_draw
  g_draw : mg "_law_draw" = some (.ref a_draw)
  b_draw : Binds K d_draw ["_law_deck_here", "_law_many"] []
  a_one : Addr
  d_one : FuncData
  F_one : Fun K "_law_one" "_law_one" s_one a_one d_one
  g_one : mg "_law_one" = some (.ref a_one)
  b_one : Binds K d_one ["_law_deck_here", "_law_items"] []
  a_power : Addr
  d_power : FuncData
  F_power : Fun K "_law_power" "_law_power" s_power a_power d_power
  g_power : mg "_law_power" = some (.ref a_power)
  b_power : Binds K d_power ["_law_servers", "_law_lag"] []
  a_house : Addr
  d_house : FuncData
  F_house : Fun K "_law_house" "_law_house" s_house a_house d_house
  g_house : mg "_law_house" = some (.ref a_house)
  b_house : Binds K d_house ["_law_deck_here", "_law_room"] []
  a_rest_kept : Addr
  d_rest_kept : FuncData
  F_rest_kept : Fun K "_law_rest_kept" "_law_rest_kept" s_rest_kept a_rest_kept d_rest_kept
  g_rest_kept : mg "_law_rest_kept" = some (.ref a_rest_kept)
  b_rest_kept : Binds K d_rest_kept ["_law_course_here", "_law_rest"] []
  a_course : Addr
  d_course : FuncData
  F_course : Fun K "_law_course" "_law_course" s_course a_course d_course
  g_course : mg "_law_course" = some (.ref a_course)
  b_course : Binds K d_course ["_law_deck_here", "_law_house_here", "_law_many"] []
  a_names : Addr
  d_names : FuncData
  F_names : Fun K "_law_names" "_law_names" s_names a_names d_names
  g_names : mg "_law_names" = some (.ref a_names)
  b_names : Binds K d_names ["_law_house_here", "_law_course_here", "_law_moment", "_law_server"] []
  a_said : Addr
  d_said : FuncData
  F_said : Fun K "_law_said" "_law_said" s_said a_said d_said
  g_said : mg "_law_said" = some (.ref a_said)
  b_said : Binds K d_said ["_law_heads", "_law_server"] []
  a_log : Addr
  d_log : FuncData
  F_log : Fun K "_law_log" "_law_log" s_log a_log d_log
  g_log : mg "_law_log" = some (.ref a_log)
  b_log : Binds K d_log ["_law_deck_here", "_law_house_here", "_law_many"] []
  a_begun : Addr
  d_begun : FuncData
  F_begun : Fun K "_law_begun" "_law_begun" s_begun a_begun d_begun
  g_begun : mg "_law_begun" = some (.ref a_begun)
  b_begun : Binds K d_begun ["_law_house_here"] []
  a_next_worlds : Addr
  d_next_worlds : FuncData
  F_next_worlds : Fun K "_law_next_worlds" "_law_next_worlds" s_next_worlds a_next_worlds d_next_worlds
  g_next_worlds : mg "_law_next_worlds" = some (.ref a_next_worlds)
  b_next_worlds : Binds K d_next_worlds ["_law_house_here", "_law_worlds_here"] []
  a_worlds : Addr
  d_worlds : FuncData
  F_worlds : Fun K "_law_worlds" "_law_worlds" s_worlds a_worlds d_worlds
  g_worlds : mg "_law_worlds" = some (.ref a_worlds)
  b_worlds : Binds K d_worlds ["_law_house_here", "_law_log_here"] []
  a_due : Addr
  d_due : FuncData
  F_due : Fun K "_law_due" "_law_due" s_due a_due d_due
  g_due : mg "_law_due" = some (.ref a_due)
  b_due : Binds K d_due ["_law_house_here", "_law_log_here"] []
  a_called : Addr
  d_called : FuncData
  F_called : Fun K "_law_called" "_law_called" s_called a_called d_called
  g_called : mg "_law_called" = some (.ref a_called)
  b_called : Binds K d_called ["_law_call"] []
  a_NONE_ASKED : Addr
  g_NONE_ASKED : mg "NONE_ASKED" = some (.ref a_NONE_ASKED)
  q_NONE_ASKED : SqT K (fun _ => none) a_NONE_ASKED [.int (-1), .int (-1)]
  t_NOT_CHANGED : Tok
  g_NOT_CHANGED : mg "NOT_CHANGED" = some (.int (-1) t_NOT_CHANGED)
  m_abs : mg "abs" = none
  m_all : mg "all" = none
  m_bool : mg "bool" = none
  m_e : mg "e" = none
  m_enumerate : mg "enumerate" = none
  m_int : mg "int" = none
  m_isinstance : mg "isinstance" = none
  m_len : mg "len" = none
  m_list : mg "list" = none
  m_max : mg "max" = none
  m_min : mg "min" = none
  m_range : mg "range" = none
  m_repr : mg "repr" = none
  m_set : mg "set" = none
  m_sorted : mg "sorted" = none
  m_tuple : mg "tuple" = none
  m_zip : mg "zip" = none
  C_NoCourse : Addr
  B_NoCourse : Addr
  a_NoCourse_init : Addr
  d_NoCourse_init : FuncData
  F_NoCourse_init : Fun K "__init__" "NoCourse.__init__" s_NoCourse_init a_NoCourse_init d_NoCourse_init
  b_NoCourse_init : Binds K d_NoCourse_init ["self", "number"] []
  E_NoCourse : ErrTxt K mg "NoCourse" "AskError" "number" "number" C_NoCourse B_NoCourse a_NoCourse_init
def Txt.tabs {K : PySem.W.Frag} {mg : Str → Option Value} (T : Txt K mg) : List (Addr × Addr) := [(T.c_changes_of, T.p_changes_of), (T.c_heads_back, T.p_heads_back), (T.c_turns, T.p_turns), (T.c_law, T.p_law)]
/-! ### NoCourse is made -/
section
variable {P : Program} {w : World} {K : PySem.W.Frag} {mg : Str → Option Value} {base : Heap}
theorem ok_NoCourse (T : Txt K mg) : FnOk P w K mg base CX0 1 T.a_NoCourse_init T.d_NoCourse_init ["self", "number"] (spInit1 K T.C_NoCourse "number") := by
  refine T.F_NoCourse_init.ok sc_NoCourse_init (fun vs H Q E h => ?_) (fun cdv A outer s H vs Q E hr h => ?_)
  · obtain ⟨a, x, rfl, _⟩ := h
    rfl
  · obtain ⟨a, x, rfl, ha, k⟩ := h
    refine ⟨_, pss_one (ps_ost (pv 0) (pv 1)), ?_⟩
    exact ⟨_, rfl, _, rfl, a, T.C_NoCourse, rfl, T.E_NoCourse.ox, T.E_NoCourse.nf, .inl ⟨ha, fun dx hn ne => k dx hn ne⟩⟩
end

def houseT (s r g : Int) : PyData := .tuple [.int s, .int r, .int g]

/-! ### the deck of a script: a list of four, its cells a list of their own -/
/-- the deck at p, n numbers have been drawn -/
def Deck (K : PySem.W.Frag) (H : Hp) (p : Addr) (n : Nat) : Prop :=
  ∃ (l : Addr) (ns : List Int) (c r : Int), H p = some (.lst [.ref l, .int c, .int r, .int (n : Int)]) ∧ l ≠ p ∧ SqL K H l (ns.map V.int) ∧ ns.length ≤ 63 ∧ 0 ≤ c ∧ 0 ≤ r
theorem Deck.ne_new {K : PySem.W.Frag} {H : Hp} {p q : Addr} {n : Nat} (D : Deck K H p n) (h : H q = none) : q ≠ p := by
  obtain ⟨l, ns, c, r, hp, _⟩ := D
  exact (ne_of_none hp h).symm
theorem Deck.ne_tup {K : PySem.W.Frag} {H : Hp} {p t : Addr} {n : Nat} {xs : List V} (D : Deck K H p n) (h : H t = some (.tup xs)) : t ≠ p := by
  obtain ⟨l, ns, c, r, hp, _⟩ := D
  exact ne_of h hp (by intro z; cases z)
theorem Deck.put {K : PySem.W.Frag} {H : Hp} {p q : Addr} {n : Nat} {o : HO} (D : Deck K H p n) (h : H q = none) : Deck K (upd H q o) p n := by
  have nq := D.ne_new h
  obtain ⟨l, ns, c, r, hp, lp, hl, z⟩ := D
  exact ⟨l, ns, c, r, by rw [upd_ne nq.symm]; exact hp, lp, (Keep.new h).seq lp hl, z⟩
/-- an object that was new at a time when the deck stood is changed later -/
theorem Deck.write {K : PySem.W.Frag} {G H : Hp} {p q : Addr} {m n : Nat} {o : HO} (A : Deck K G p m) (h : G q = none) (k : Keep p G H) (D : Deck K H p n) : Deck K (upd H q o) p n := by
  have nq := A.ne_new h
  obtain ⟨l, ns, c, r, gp, lp, gl, g63, _⟩ := A
  obtain ⟨l', ns', c', r', hp, lp', hl, h63, hc, hr⟩ := D
  obtain ⟨z, hz⟩ := k.h l _ gp
  have e : l' = l := by
    rw [hp] at hz
    injection hz with hz
    injection hz with hz
    injection hz with hz _
    injection hz
  subst e
  have hp' : upd H q o p = some (.lst [.ref l', .int c', .int r', .int (n : Int)]) := by
    rw [upd_ne nq.symm]
    exact hp
  rcases gl with gl | gl
  · have lq : l' ≠ q := by
      rcases gl with gl | ⟨_, gl⟩
      · exact ne_of_none gl h
      · exact ne_of_none gl h
    refine ⟨l', ns', c', r', hp', lp, ?_, h63, hc, hr⟩
    rcases hl with (hl | ⟨u, hl⟩) | hl
    · exact Or.inl (Or.inl (by rw [upd_ne lq]; exact hl))
    · exact Or.inl (Or.inr ⟨u, by rw [upd_ne lq]; exact hl⟩)
    · exact Or.inr hl
  · exact ⟨l', ns, c', r', hp', lp, Or.inr gl, g63, hc, hr⟩
theorem ints_dp {K : PySem.W.Frag} {H : Hp} : ∀ ns : List Int, DpAll K H (ns.map V.int) (ns.map PyData.int)
  | [] => .nil
  | n :: ns => .cons (.int n) (ints_dp ns)
theorem ints_lay : ∀ ns : List Int, PyData.canLayAll0 (ns.map PyData.int) = true
  | [] => by simp only [List.map_nil, PyData.canLayAll0]
  | n :: ns => by simp only [List.map_cons, PyData.canLayAll0, PyData.canLay0, ints_lay ns, Bool.and_self]
theorem ints_deep : ∀ ns : List Int, PyData.depthAll (ns.map PyData.int) = 0
  | [] => by simp only [List.map_nil, PyData.depthAll]
  | n :: ns => by simp only [List.map_cons, PyData.depthAll, PyData.depth, ints_deep ns, Nat.max_self]
theorem ints_shaped (ns : List Int) : SeqAt.shaped (.list (ns.map PyData.int)) = true := by
  unfold SeqAt.shaped
  simp only [PyData.canLay0, PyData.depth, ints_lay, ints_deep, Bool.true_and, decide_eq_true_eq]
  decide
theorem ints_nil (ns : List Int) : PyData.eqv (.list (ns.map PyData.int)) (.list []) = ns.isEmpty := by
  cases ns <;> simp [PyData.eqv, PyData.eqvAll]
theorem int_at (ns : List Int) (i : Int) (h0 : 0 ≤ i) (h1 : i < (ns.length : Int)) : ∃ z, atI (ns.map V.int) i = some (.int z) := by
  obtain ⟨j, rfl⟩ : ∃ j : Nat, i = (j : Int) := ⟨i.toNat, (Int.toNat_of_nonneg h0).symm⟩
  have hj : j < ns.length := by omega
  refine ⟨ns[j], atI_nat ?_⟩
  rw [List.getElem?_map, List.getElem?_eq_getElem hj]
  rfl
theorem fmod_lo {a m : Int} (h : 0 < m) : 0 ≤ a.fmod m := Int.fmod_nonneg_of_pos _ h
theorem fmod_hi {a m : Int} (h : 0 < m) : a.fmod m < m := Int.fmod_lt_of_pos _ h
theorem fdiv_lo {a m : Int} (h : 0 ≤ a) (hm : 0 < m) : 0 ≤ a.fdiv m := by
  rw [Int.fdiv_eq_ediv_of_nonneg _ (Int.le_of_lt hm)]
  exact Int.ediv_nonneg h (Int.le_of_lt hm)
theorem rIx_of {K : PySem.W.Frag} {H : Hp} {p : Addr} {xs : List V} {i : Int} {v : V} {Q : VK} (h : SqA K H p xs) (he : atI xs i = some v) (q : Q v H) : rIx K (.ref p) (.int i) H Q := by
  rcases h with h | h
  · exact Or.inl ⟨p, xs, i, v, rfl, rfl, h, he, q⟩
  · exact Or.inr (Or.inl ⟨p, xs, i, v, rfl, rfl, h, he, q⟩)
def sp_draw (K : PySem.W.Frag) : Sp := fun vs H Q _ => ∃ (p : Addr) (m : Int) (n : Nat), vs = [.ref p, .int m] ∧ 0 < m ∧ m < 100000 ∧ Deck K H p n ∧ n < 1000000 ∧
  ∀ (r : Int) (J : Hp), 0 ≤ r → r < m → Deck K J p (n + 1) → Keep p H J → Q (.int r) J
def sp_one (K : PySem.W.Frag) : Sp := fun vs H Q _ => ∃ (p a : Addr) (xs : List V) (n : Nat), vs = [.ref p, .ref a] ∧ SqL K H a xs ∧ a ≠ p ∧ 0 < xs.length ∧ xs.length < 100000 ∧ Deck K H p n ∧ n < 1000000 ∧
  ∀ (i : Nat) (x : V) (J : Hp), xs[i]? = some x → Deck K J p (n + 1) → Keep p H J → Q x J
section
variable {P : Program} {w : World} {K : PySem.W.Frag} {mg : Str → Option Value} {base : Heap}
theorem ok_draw (T : Txt K mg) : FnOk P w K mg base CX0 1 T.a_draw T.d_draw ["_law_deck_here", "_law_many"] (sp_draw K) := by
  refine T.F_draw.ok sc_draw (fun vs H Q E h => ?_) (fun cdv A outer s H vs Q E hr h => ?_)
  · obtain ⟨p, m, n, rfl, _⟩ := h
    rfl
  · obtain ⟨p, m, n, rfl, m0, m1, ⟨l, ns, c, r, hp, lp, hl, h63, c0, r0⟩, hn, k⟩ := h
    have mne : m ≠ 0 := by omega
    have md : CDivN r m := ⟨mne, by omega⟩
    refine ⟨_, (pss_cons (ps_asg (pe_op op_add (pe_ix ix_list (pv 0) pe_int (fun _ _ => rfl)) pe_int) (pg_sub (pv 0) pe_int set_list))
      (pss_cons (ps_if (pt_cmpR op_gt (pe_ix ix_list (pv 0) pe_int (fun _ _ => rfl)) pe_int (nomark _))
        (pss_cons (ps_set (i := 2) sc_draw.nd rfl (Or.inl rfl) (pe_op op_modN (pe_callTy (T := "int") call_int1 (by rfl) T.m_int (by decide +kernel) (pa_cons (pe_ix ix_list (pv 0) pe_int (fun _ _ => rfl)) pa_nil)) (pv 1)))
      (pss_cons (ps_asg (pe_op op_fdivN (pe_ix ix_list (pv 0) pe_int (fun _ _ => rfl)) (pv 1)) (pg_sub (pv 0) pe_int set_list))
      (pss_one (ps_ret (pv 2)))))
        pss_nil)
      (pss_cons (ps_set (i := 3) sc_draw.nd rfl (Or.inl rfl) pe_int)
      (Evl.pss_cut (ps_if (pt_cmpR (op_neD hr.units) (pe_ix ix_list (pv 0) pe_int (fun _ _ => rfl)) (pe_lst pa_nil) (nomark _))
        (pss_one (ps_set (i := 3) sc_draw.nd rfl (Or.inl rfl) (pe_ix ix_list (pe_ix ix_list (pv 0) pe_int (fun _ _ => rfl)) (pe_op op_modN (pe_callTy (T := "int") call_int1 (by rfl) T.m_int (by decide +kernel) (pa_cons (pe_ix ix_list (pv 0) pe_int (fun _ _ => rfl)) pa_nil)) (pe_callB (id := "len") call_len_seq (by rfl) T.m_len (by decide +kernel) (pa_cons (pe_ix ix_list (pv 0) pe_int (fun _ _ => rfl)) pa_nil))) (fun _ _ => rfl))))
        pss_nil)
      (pss_cons (ps_asg (pe_op op_add (pe_ix ix_list (pv 0) pe_int (fun _ _ => rfl)) pe_int) (pg_sub (pv 0) pe_int set_list))
      (Evl.pss_cut (ps_if (PW.pt (pw_and (pt_cmpR op_ge (pe_callB (id := "abs") call_abs (by rfl) T.m_abs (by decide +kernel) (pa_cons (pv 3) pa_nil)) (pe_op op_pow pe_int pe_int) (nomark _)) (pw_and1 (pt_cmpR op_le (pe_ix ix_list (pv 0) pe_int (fun _ _ => rfl)) (pe_callB (id := "len") call_len_seq (by rfl) T.m_len (by decide +kernel) (pa_cons (pe_ix ix_list (pv 0) pe_int (fun _ _ => rfl)) pa_nil)) (nomark _)))))
        (pss_cons (ps_asg (pe_op op_fdivN (pe_callB (id := "abs") call_abs (by rfl) T.m_abs (by decide +kernel) (pa_cons (pv 3) pa_nil)) (pv 1)) (pg_sub (pv 0) pe_int set_list))
      (pss_one (ps_ret (pe_op op_modN (pe_callTy (T := "int") call_int1 (by rfl) T.m_int (by decide +kernel) (pa_cons (pe_callB (id := "abs") call_abs (by rfl) T.m_abs (by decide +kernel) (pa_cons (pv 3) pa_nil)) pa_nil)) (pv 1)))))
        pss_nil)
      (pss_cons (ps_set (i := 4) sc_draw.nd rfl (Or.inl rfl) (pe_op op_modN (pe_op op_pow (pe_callTy (T := "int") call_int1 (by rfl) T.m_int (by decide +kernel) (pa_cons (pe_op op_add (pe_op op_modN (pe_callTy (T := "int") call_int1 (by rfl) T.m_int (by decide +kernel) (pa_cons (pv 3) pa_nil)) pe_int) (pe_op op_mul pe_int (pe_ix ix_list (pv 0) pe_int (fun _ _ => rfl)))) pa_nil)) pe_int) pe_int))
      (pss_cons (ps_set (i := 4) sc_draw.nd rfl (Or.inl rfl) (pe_op op_modN (pe_op op_pow (pe_callTy (T := "int") call_int1 (by rfl) T.m_int (by decide +kernel) (pa_cons (pe_op op_add (pe_op op_mul (pv 4) (pe_op op_add (pe_op op_mul pe_int (pe_ix ix_list (pv 0) pe_int (fun _ _ => rfl))) pe_int)) pe_int) pa_nil)) pe_int) pe_int))
      (pss_one (ps_ret (pe_op op_modN (pe_op op_fdivN (pv 4) pe_int) (pv 1)))))))))))), ?_⟩
    -- the number of draws
    refine ⟨_, rfl, p, _, 3, _, rfl, rfl, SqL.of hp, rfl, _, _, rfl, rfl, _, rfl, p, _, 3, 3, rfl, rfl, hp, rfl, ?_⟩
    have en : ((n : Int) + 1) = ((n + 1 : Nat) : Int) := by omega
    have h1 : upd H p (.lst [.ref l, .int c, .int r, .int ((n : Int) + 1)]) p = some (.lst [.ref l, .int c, .int r, .int ((n : Int) + 1)]) := upd_same
    have K1 : Keep p H (upd H p (.lst [.ref l, .int c, .int r, .int ((n : Int) + 1)])) := Keep.put hp
    have l1 := K1.seq lp hl
    refine ⟨_, rfl, p, _, 2, _, rfl, rfl, SqL.of h1, rfl, _, _, rfl, rfl, _, rfl, ite2 (fun hpos => ?_) (fun _ => ?_)⟩
    · refine ⟨_, rfl, p, _, 2, _, rfl, rfl, SqL.of h1, rfl, .inl ⟨_, rfl, _, rfl, _, _, rfl, rfl, mne, ?_⟩⟩
      refine ⟨_, rfl, p, _, 2, _, rfl, rfl, SqL.of h1, rfl, _, rfl, _, _, rfl, rfl, md, _, rfl, p, _, 2, 2, rfl, rfl, h1, rfl, ?_⟩
      refine ⟨_, rfl, k _ _ (fmod_lo m0) (fmod_hi m0) ?_ (K1.trans (Keep.put h1))⟩
      exact ⟨l, ns, c, r.fdiv m, by rw [upd_same, ← en]; rfl, lp, (K1.trans (Keep.put h1)).seq lp hl, h63, c0, fdiv_lo r0 m0⟩
    · -- the cell: 67, or one of the script's
      let H1 := upd H p (.lst [.ref l, .int c, .int r, .int ((n : Int) + 1)])
      refine ⟨fun σ' H2 => ∃ z : Int, σ' = [some (.ref p), some (.int m), none, some (.int z), none] ∧ Same H1 H2, ?_, ?_⟩
      · refine ⟨_, rfl, p, _, 0, _, rfl, rfl, SqL.of h1, rfl, Nat.zero_le _, fun q hq => ?_⟩
        have s2 : Same H1 (upd H1 q (.lst [])) := fun b o e => by
          rw [upd_ne (ne_of_none e hq)]
          exact e
        have h2 := s2 _ _ h1
        refine ⟨.list (ns.map PyData.int), .list [], .lst (s2.seq l1) (ints_dp ns), .lst (SqL.of upd_same) .nil, ints_shaped ns, by decide, _, rfl, ?_⟩
        rw [ints_nil]
        cases ns with
        | nil => exact ⟨67, rfl, s2⟩
        | cons y ys =>
          refine iteT ?_
          have len0 : (((y :: ys).length : Nat) : Int) ≠ 0 := by rw [List.length_cons]; omega
          have lenp : (0 : Int) < (((y :: ys).length : Nat) : Int) := by rw [List.length_cons]; omega
          have e2 : (((y :: ys).map V.int).length : Int) = (((y :: ys).length : Nat) : Int) := by rw [List.length_map]
          obtain ⟨z, hz⟩ := int_at (y :: ys) (c.fmod (((y :: ys).length : Nat) : Int)) (fmod_lo lenp) (fmod_hi lenp)
          refine ⟨_, rfl, p, _, 0, _, rfl, rfl, SqL.of h2, rfl, _, rfl, p, _, 1, _, rfl, rfl, SqL.of h2, rfl, .inl ⟨_, rfl, _, rfl, p, _, 0, _, rfl, rfl, SqL.of h2, rfl, l, _, rfl, .inl (s2.seq l1), c, _, rfl, rfl, by rw [e2]; exact len0, ?_⟩⟩
          rw [e2]
          exact ⟨l, _, _, _, rfl, rfl, s2.seq l1, hz, z, rfl, s2⟩
      · rintro σ' H2 ⟨z, rfl, s2⟩
        have h2 := s2 _ _ h1
        have K2 : Keep p H H2 := K1.trans (Keep.of_same s2)
        -- one cell more has been read
        refine ⟨_, rfl, p, _, 1, _, rfl, rfl, SqL.of h2, rfl, _, _, rfl, rfl, _, rfl, p, _, 1, 1, rfl, rfl, h2, rfl, ?_⟩
        have K3 : Keep p H (upd H2 p (.lst [.ref l, .int (c + 1), .int r, .int ((n : Int) + 1)])) := K2.trans (Keep.put h2)
        have h3 : upd H2 p (.lst [.ref l, .int (c + 1), .int r, .int ((n : Int) + 1)]) p = some (.lst [.ref l, .int (c + 1), .int r, .int ((n : Int) + 1)]) := upd_same
        have l3 := K3.seq lp hl
        have D3 : Deck K (upd H2 p (.lst [.ref l, .int (c + 1), .int r, .int ((n : Int) + 1)])) p (n + 1) := ⟨l, ns, c + 1, r, by rw [h3, en], lp, l3, h63, by omega, r0⟩
        refine ⟨fun σ' H' => σ' = [some (.ref p), some (.int m), none, some (.int z), none] ∧ H' = upd H2 p (.lst [.ref l, .int (c + 1), .int r, .int ((n : Int) + 1)]), ?_, ?_⟩
        · refine ⟨_, rfl, _, rfl, 10, 18, rfl, rfl, ⟨by decide, by decide, by decide⟩, _, _, rfl, rfl, _, rfl, ?_⟩
          refine ite2 (fun _ => ?_) (fun _ => iteF ⟨rfl, rfl⟩)
          refine ⟨_, rfl, p, _, 1, _, rfl, rfl, SqL.of h3, rfl, _, rfl, p, _, 0, _, rfl, rfl, SqL.of h3, rfl, l, _, rfl, .inl l3, _, _, rfl, rfl, _, rfl, ?_⟩
          refine ite2 (fun _ => ?_) (fun _ => ⟨rfl, rfl⟩)
          have az : 0 ≤ (if z < 0 then -z else z) := by split <;> omega
          refine ⟨_, rfl, _, rfl, _, rfl, _, _, rfl, rfl, ⟨mne, by omega⟩, _, rfl, p, _, 2, 2, rfl, rfl, h3, rfl, ?_⟩
          refine ⟨_, rfl, _, rfl, .inl ⟨_, rfl, _, rfl, _, _, rfl, rfl, mne, ?_⟩⟩
          refine k _ _ (fmod_lo m0) (fmod_hi m0) ?_ (K3.trans (Keep.put h3))
          exact ⟨l, ns, c + 1, (if z < 0 then -z else z).fdiv m, by rw [upd_same, ← en]; rfl, lp, (K3.trans (Keep.put h3)).seq lp hl, h63, by omega, fdiv_lo az m0⟩
        · rintro σ' H' ⟨rfl, rfl⟩
          -- otherwise mixed
          have a0 : 0 ≤ z.fmod 2147483629 := fmod_lo (by decide)
          have a1 : z.fmod 2147483629 < 2147483629 := fmod_hi (by decide)
          refine ⟨_, rfl, .inl ⟨_, rfl, _, _, rfl, rfl, (by show (2147483629 : Int) ≠ 0; decide), _, rfl, p, _, 3, _, rfl, rfl, SqL.of h3, rfl, _, _, rfl, rfl, .inl ⟨by show -(2 ^ 64) < (67867967 : Int); decide, by show (67867967 : Int) < 2 ^ 64; decide⟩, _, _, rfl, rfl, ?_⟩⟩
          refine .inl ⟨_, rfl, _, _, rfl, rfl, ⟨by show (0 : Int) ≤ 5; decide, by show (5 : Int) ≤ 1000000; decide, by omega⟩, _, _, rfl, rfl, (by show (2147483647 : Int) ≠ 0; decide), ?_⟩
          generalize ((z.fmod 2147483629 + 67867967 * ((n : Int) + 1)) ^ (5 : Int).toNat) = big
          have b0 : 0 ≤ big.fmod 2147483647 := fmod_lo (by decide)
          have b1 : big.fmod 2147483647 < 2147483647 := fmod_hi (by decide)
          obtain ⟨mix, hm⟩ : ∃ mix, mix = big.fmod 2147483647 := ⟨_, rfl⟩
          rw [← hm] at b0 b1
          have c1 : mix * (2 * ((n : Int) + 1) + 3) ≤ 2147483647 * 3000000 := Int.mul_le_mul (by omega) (by omega) (by omega) (by decide)
          have c2 : 0 ≤ mix * (2 * ((n : Int) + 1) + 3) := Int.mul_nonneg b0 (by omega)
          have c3 : (mix * (2 * ((n : Int) + 1) + 3) + 5323).natAbs < 2 ^ 64 := by omega
          have c4 : -(2 ^ 64) < mix ∧ mix < 2 ^ 64 := ⟨by omega, by omega⟩
          rw [hm] at c3 c4
          refine ⟨_, rfl, _, rfl, p, _, 3, _, rfl, rfl, SqL.of h3, rfl, _, _, rfl, rfl, .inl ⟨by show -(2 ^ 64) < (2 : Int); decide, by show (2 : Int) < 2 ^ 64; decide⟩, _, _, rfl, rfl, _, _, rfl, rfl, .inl c4, _, _, rfl, rfl, ?_⟩
          refine .inl ⟨_, rfl, _, _, rfl, rfl, ⟨by show (0 : Int) ≤ 3; decide, by show (3 : Int) ≤ 1000000; decide, c3⟩, _, _, rfl, rfl, (by show (2147483587 : Int) ≠ 0; decide), ?_⟩
          refine ⟨_, rfl, _, _, rfl, rfl, ⟨by show (64 : Int) ≠ 0; decide, by show (64 : Int).natAbs < 1073741824; decide⟩, _, rfl, _, _, rfl, rfl, mne, ?_⟩
          exact k _ _ (fmod_lo m0) (fmod_hi m0) D3 K3
theorem ok_one (T : Txt K mg) : FnOk P w K mg base CX0 2 T.a_one T.d_one ["_law_deck_here", "_law_items"] (sp_one K) := by
  have G_draw : FnOk P w K mg base CX0 1 T.a_draw T.d_draw ["_law_deck_here", "_law_many"] (sp_draw K) := ok_draw T
  refine T.F_one.ok sc_one (fun vs H Q E h => ?_) (fun cdv A outer s H vs Q E hr h => ?_)
  · obtain ⟨p, a, xs, n, rfl, _⟩ := h
    rfl
  · obtain ⟨p, a, xs, n, rfl, hx, ap, x0, x1, D, hn, k⟩ := h
    refine ⟨_, (pss_one (ps_ret (pe_ix ix_seq (pv 1) (pe_call G_draw (hr.mono (by omega)) (by rfl) T.g_draw T.F_draw.kp T.b_draw .nil pass0 (pa_cons (pv 0) (pa_cons (pe_callB (id := "len") call_len_seq (by rfl) T.m_len (by decide +kernel) (pa_cons (pv 1) pa_nil)) pa_nil))) (fun _ _ => rfl)))), ?_⟩
    refine ⟨_, rfl, _, rfl, _, rfl, a, xs, rfl, .inl hx, p, (xs.length : Int), n, rfl, by omega, by omega, D, hn, fun r J r0 r1 DJ KJ => ?_⟩
    obtain ⟨i, rfl⟩ : ∃ i : Nat, r = (i : Int) := ⟨r.toNat, (Int.toNat_of_nonneg r0).symm⟩
    have hi : i < xs.length := by omega
    refine rIx_of (.inl (KJ.seq ap hx)) (atI_nat (List.getElem?_eq_getElem hi)) ?_
    exact k i _ J (List.getElem?_eq_getElem hi) DJ KJ
end

/-! ### the deck made -/
theorem same_new {q : Addr} {H : Hp} {o : HO} (h : H q = none) : Same H (upd H q o) := fun b u e => by
  rw [upd_ne (ne_of_none e h)]
  exact e
theorem Deck.of_same {K : PySem.W.Frag} {H J : Hp} {p : Addr} {n : Nat} (D : Deck K H p n) (e : Same H J) : Deck K J p n := by
  obtain ⟨l, ns, c, r, hp, lp, hl, z⟩ := D
  exact ⟨l, ns, c, r, e _ _ hp, lp, e.seq hl, z⟩
theorem Keep.free {p q : Addr} {H J : Hp} (k : Keep p H J) (n : q ≠ p) (h : J q = none) : H q = none := by
  cases e : H q with
  | none => rfl
  | some o =>
    cases o with
    | tbl x =>
      obtain ⟨x', e', _⟩ := k.t q x e
      rw [e'] at h
      cases h
    | _ =>
      rw [k.at n e] at h
      cases h
def sp_deck (K : PySem.W.Frag) : Sp := fun vs H Q _ => ∃ (a : Addr) (ns : List Int), vs = [.ref a] ∧ SqL K H a (ns.map V.int) ∧ ns.length ≤ 63 ∧
  ∀ (p : Addr) (J : Hp), Deck K J p 0 → Same H J → H p = none → Q (.ref p) J
theorem cut63 (xs : List V) (h : xs.length ≤ 63) : cutV xs none (some 63) = xs := by
  unfold cutV
  rw [HT.sIx_none, show HT.sIx xs.length xs.length (some 63) = min 63 xs.length from HT.sIx_nat xs.length xs.length 63]
  rw [List.drop_zero, Nat.sub_zero, List.take_of_length_le (by omega)]
section
variable {P : Program} {w : World} {K : PySem.W.Frag} {mg : Str → Option Value} {base : Heap}
theorem ok_deck (T : Txt K mg) : FnOk P w K mg base CX0 1 T.a_deck T.d_deck ["_law_script"] (sp_deck K) := by
  refine T.F_deck.ok sc_deck (fun vs H Q E h => ?_) (fun cdv A outer s H vs Q E hr h => ?_)
  · obtain ⟨a, ns, rfl, _⟩ := h
    rfl
  · obtain ⟨a, ns, rfl, hl, h63, k⟩ := h
    refine ⟨_, (pss_one (ps_ret (pe_lst (pa_cons (pe_callTy (T := "list") call_list_of (by rfl) T.m_list (by decide +kernel) (pa_cons (pe_slice sl_list (pv 0) po_none (po_some pe_int)) pa_nil)) (pa_cons pe_int (pa_cons pe_int (pa_cons pe_int pa_nil))))))), ?_⟩
    refine ⟨_, rfl, 63, rfl, a, _, rfl, hl, fun c hc => ?_⟩
    have s1 : Same H (upd H c (.lst (cutV (ns.map V.int) none (some 63)))) := same_new hc
    refine ⟨c, _, rfl, .inl (SqL.of upd_same), fun l hl' => ?_⟩
    refine ⟨by show 4 ≤ sizeLine; decide, fun p hp => ?_⟩
    have s2 := s1.trans (same_new (o := .lst (cutV (ns.map V.int) none (some 63))) hl')
    have lp : l ≠ p := fun e => by
      rw [← e, upd_same] at hp
      cases hp
    refine k p _ ⟨l, ns, 0, 0, upd_same, lp, SqL.of ?_, h63, by decide, by decide⟩ (s2.trans (same_new hp)) (s2.free hp)
    rw [upd_ne lp, upd_same, cut63 _ (by rw [List.length_map]; exact h63)]
end

/-! ### powers, houses drawn -/
def HouseOf (room s r g : Int) : Prop := 2 ≤ s ∧ s ≤ 4 ∧ 1 ≤ r ∧ r ≤ 6 ∧ 0 ≤ g ∧ g ≤ 3 ∧ s ^ (g + 1).toNat ≤ room
def sp_power : Sp := fun vs H Q _ => ∃ (s g : Int), vs = [.int s, .int g] ∧ 0 ≤ s ∧ s ≤ 100 ∧ -1 ≤ g ∧ g ≤ 100 ∧ Q (.int (s ^ (g + 1).toNat)) H
def sp_house (K : PySem.W.Frag) : Sp := fun vs H Q _ => ∃ (p : Addr) (room : Int) (n : Nat), vs = [.ref p, .int room] ∧ 4 ≤ room ∧ Deck K H p n ∧ n < 900000 ∧
  ∀ (s r g : Int) (t : Addr) (J : Hp), HouseOf room s r g → J t = some (.tup [.int s, .int r, .int g]) → H t = none → Deck K J p (n + 4) → Keep p H J → Q (.ref t) J
section
variable {P : Program} {w : World} {K : PySem.W.Frag} {mg : Str → Option Value} {base : Heap}
theorem ok_power (T : Txt K mg) : FnOk P w K mg base CX0 1 T.a_power T.d_power ["_law_servers", "_law_lag"] sp_power := by
  refine T.F_power.ok sc_power (fun vs H Q E h => ?_) (fun cdv A outer s H vs Q E hr h => ?_)
  · obtain ⟨s, g, rfl, _⟩ := h
    rfl
  · obtain ⟨z, g, rfl, s0, s1, g0, g1, k⟩ := h
    refine ⟨_, (pss_cons (ps_set (i := 2) sc_power.nd rfl (Or.inl rfl) pe_int)
      (pss_cons (ps_for PassesOwn.never rfl (pi_range1 (by rfl) T.m_range (pa_cons (pe_op op_add (pv 1) pe_int) pa_nil)) (pg_name (i := 3) sc_power.nd rfl (Or.inl rfl))
        (pss_one (ps_set (i := 2) sc_power.nd rfl (Or.inl rfl) (pe_op op_mul (pv 2) (pv 0)))))
      (pss_one (ps_ret (pv 2))))), ?_⟩
    refine ⟨_, rfl, _, _, rfl, rfl, _, rfl, by omega, by omega, for_range (lo := 0) (n := (g + 1).toNat) (fun i σ H' => H' = H ∧ ∃ y, σ = [some (.int z), some (.int g), some (.int (z ^ i)), y]) ⟨rfl, none, by rw [Int.pow_zero]; rfl⟩ ?_ ?_⟩
    · rintro i σ H' hi ⟨rfl, y, rfl⟩
      refine ⟨_, rfl, _, rfl, _, _, rfl, rfl, .inr ⟨by omega, by omega⟩, rfl, some (.int (0 + (i : Int))), ?_⟩
      rw [Int.pow_succ]
      rfl
    · rintro σ H' ⟨rfl, y, rfl⟩
      exact ⟨_, rfl, k⟩
theorem ok_house (T : Txt K mg) : FnOk P w K mg base CX0 3 T.a_house T.d_house ["_law_deck_here", "_law_room"] (sp_house K) := by
  have G_draw : FnOk P w K mg base CX0 1 T.a_draw T.d_draw ["_law_deck_here", "_law_many"] (sp_draw K) := ok_draw T
  have G_one : FnOk P w K mg base CX0 2 T.a_one T.d_one ["_law_deck_here", "_law_items"] (sp_one K) := ok_one T
  have G_power : FnOk P w K mg base CX0 1 T.a_power T.d_power ["_law_servers", "_law_lag"] sp_power := ok_power T
  refine T.F_house.ok sc_house (fun vs H Q E h => ?_) (fun cdv A outer s H vs Q E hr h => ?_)
  · obtain ⟨p, room, n, rfl, _⟩ := h
    rfl
  · obtain ⟨p, room, n, rfl, r4, D, hn, k⟩ := h
    refine ⟨_, (pss_cons (ps_set (i := 2) sc_house.nd rfl (Or.inr rfl) (pe_call G_one (hr.mono (by omega)) (by rfl) T.g_one T.F_one.kp T.b_one .nil pass0 (pa_cons (pv 0) (pa_cons (pe_lst (pa_cons pe_int (pa_cons pe_int (pa_cons pe_int (pa_cons pe_int (pa_cons pe_int pa_nil)))))) pa_nil))))
      (pss_cons (ps_setLc (i := 3) (own := [("_law_lag", 4)]) (g := gName 4) (by rfl) sc_house.nd rfl rfl (sw_true rfl rfl rfl (by decide +kernel)) (pi_range1 (by rfl) T.m_range (pa_cons pe_int pa_nil)) (blkOk_by (own := [("_law_lag", 4)]) (N := ["_law_deck_here", "_law_room", "_law_servers", "_law_fits", "_law_lag"]) (sc := defScope s_house) (by decide +kernel)) (fun _ _ _ _ _ => (pg_name (i := 4) sc_house.nd rfl (Or.inl rfl))) (fun _ _ _ _ _ => (pts_one (pt_cmpR op_le (pe_call G_power (hr.mono (by omega)) (by rfl) T.g_power T.F_power.kp T.b_power .nil pass0 (pa_cons (pv 2) (pa_cons (pv 4) pa_nil))) (pv 1) (nomark _)))) (fun _ _ _ _ _ => (pv 4)))
      (pss_cons (ps_set (i := 4) sc_house.nd rfl (Or.inl rfl) (pe_call G_one (hr.mono (by omega)) (by rfl) T.g_one T.F_one.kp T.b_one .nil pass0 (pa_cons (pv 0) (pa_cons (pv 3) pa_nil))))
      (pss_one (ps_ret (pe_tup (pa_cons (pv 2) (pa_cons (pe_call G_one (hr.mono (by omega)) (by rfl) T.g_one T.F_one.kp T.b_one .nil pass0 (pa_cons (pv 0) (pa_cons (pe_lst (pa_cons pe_int (pa_cons pe_int (pa_cons pe_int (pa_cons pe_int (pa_cons pe_int (pa_cons (pe_op op_add pe_int (pe_call G_draw (hr.mono (by omega)) (by rfl) T.g_draw T.F_draw.kp T.b_draw .nil pass0 (pa_cons (pv 0) (pa_cons pe_int pa_nil)))) pa_nil))))))) pa_nil))) (pa_cons (pv 4) pa_nil))))))))), ?_⟩
    -- servers
    refine ⟨_, rfl, by show 5 ≤ sizeLine; decide, fun l hl => ?_⟩
    refine ⟨p, l, _, n, rfl, SqL.of upd_same, D.ne_new hl, by show 0 < 5; decide, by show 5 < 100000; decide, D.put hl, by omega, fun i x J hx DJ KJ => ?_⟩
    obtain ⟨z, rfl, z2, z4⟩ : ∃ z : Int, x = .int z ∧ 2 ≤ z ∧ z ≤ 4 := by
      have m := List.mem_of_getElem? hx
      simp only [List.mem_cons, List.not_mem_nil, or_false] at m
      rcases m with m | m | m | m | m <;> exact ⟨_, m, by decide, by decide⟩
    have K1 : Keep p H J := (Keep.new hl).trans KJ
    -- the lags that fit
    refine ⟨4, rfl, by show -(2 ^ 62) ≤ (4 : Int); decide, by show (4 : Int) < 2 ^ 62; decide, fun F hF => ?_⟩
    refine lc_range (lo := 0) (n := 4) (fun i H' => ∃ acc : List Int, H' = upd J F (.lst (acc.map V.int)) ∧ acc.length ≤ i ∧ (0 < i → acc ≠ []) ∧ ∀ y ∈ acc, 0 ≤ y ∧ y ≤ 3 ∧ z ^ (y + 1).toNat ≤ room)
      ⟨[], rfl, Nat.le_refl _, fun q => absurd q (by decide), fun y q => (List.not_mem_nil q).elim⟩ ?_ ?_
    · rintro i H' hi ⟨acc, rfl, al, an, ay⟩
      refine ⟨rfl, ?_⟩
      refine ⟨_, rfl, _, rfl, z, 0 + (i : Int), rfl, by omega, by omega, by omega, by omega, _, rfl, _, _, rfl, rfl, _, rfl, ?_⟩
      refine ite2 (fun e => ?_) (fun e => ?_)
      · have le := of_decide_eq_true e
        refine ⟨_, rfl, acc.map V.int, upd_same, small1000 (by rw [List.length_map]; omega), acc ++ [0 + (i : Int)], ?_, by rw [List.length_append, List.length_singleton]; omega, fun _ q => ?_, ?_⟩
        · rw [upd_upd, List.map_append]
          rfl
        · exact absurd (congrArg List.length q) (by rw [List.length_append, List.length_singleton, List.length_nil]; omega)
        · intro y hy
          rcases List.mem_append.mp hy with q | q
          · exact ay y q
          · rw [List.mem_singleton] at q
            rw [q]
            exact ⟨by omega, by omega, le⟩
      · refine ⟨acc, rfl, by omega, fun _ => ?_, ay⟩
        cases i with
        | zero =>
          refine absurd ?_ e
          refine decide_eq_true ?_
          have : z ^ (0 + ((0 : Nat) : Int) + 1).toNat = z := by
            show z ^ 1 = z
            rw [Int.pow_succ, Int.pow_zero, Int.one_mul]
          rw [this]
          omega
        | succ i => exact an (Nat.succ_pos i)
    · rintro H' ⟨acc, rfl, al, an, ay⟩
      have DF := DJ.put (o := .lst (acc.map V.int)) hF
      have K2 : Keep p H (upd J F (.lst (acc.map V.int))) := K1.trans (Keep.new hF)
      have a0 : 0 < acc.length := by
        cases acc with
        | nil => exact absurd rfl (an (by decide))
        | cons _ _ => exact Nat.succ_pos _
      -- the lag
      refine ⟨_, rfl, _, rfl, p, F, _, n + 1, rfl, SqL.of upd_same, DJ.ne_new hF, by rw [List.length_map]; exact a0, by rw [List.length_map]; omega, DF, by omega, fun j x J2 hx2 DJ2 KJ2 => ?_⟩
      obtain ⟨g, rfl, g0, g3, gr⟩ : ∃ g : Int, x = .int g ∧ 0 ≤ g ∧ g ≤ 3 ∧ z ^ (g + 1).toNat ≤ room := by
        have m := List.mem_of_getElem? hx2
        obtain ⟨y, hy, rfl⟩ := List.mem_map.mp m
        exact ⟨y, rfl, ay y hy⟩
      have K3 := K2.trans KJ2
      -- the rest
      refine ⟨_, rfl, _, rfl, _, rfl, p, 6, n + 2, rfl, by decide, by decide, DJ2, by omega, fun r J3 r0 r1 DJ3 KJ3 => ?_⟩
      have K4 := K3.trans KJ3
      refine ⟨_, _, rfl, rfl, by show 6 ≤ sizeLine; decide, fun l3 hl3 => ?_⟩
      refine ⟨p, l3, _, n + 3, rfl, SqL.of upd_same, DJ3.ne_new hl3, by show 0 < 6; decide, by show 6 < 100000; decide, DJ3.put hl3, by omega, fun j3 x3 J4 hx3 DJ4 KJ4 => ?_⟩
      obtain ⟨y, rfl, y1, y6⟩ : ∃ y : Int, x3 = .int y ∧ 1 ≤ y ∧ y ≤ 6 := by
        have m := List.mem_of_getElem? hx3
        simp only [List.mem_cons, List.not_mem_nil, or_false] at m
        rcases m with m | m | m | m | m | m
        · exact ⟨_, m, by decide, by decide⟩
        · exact ⟨_, m, by decide, by decide⟩
        · exact ⟨_, m, by decide, by decide⟩
        · exact ⟨_, m, by decide, by decide⟩
        · exact ⟨_, m, by decide, by decide⟩
        · exact ⟨_, m, by omega, by omega⟩
      have K5 : Keep p H J4 := (K4.trans (Keep.new hl3)).trans KJ4
      refine ⟨_, rfl, by show 3 ≤ sizeLine; decide, fun t ht => ?_⟩
      exact k z y g t _ ⟨z2, z4, y1, y6, g0, g3, gr⟩ upd_same (K5.free (DJ4.ne_new ht) ht) (DJ4.put ht) (K5.trans (Keep.new ht))
end

/-! ### data behind the deck -/
/-- data behind the deck -/
abbrev Dt (K : PySem.W.Frag) (p : Addr) (H : Hp) (v : V) (d : PyData) : Prop := Dp K (off p H) v d
theorem Keep.dt {K : PySem.W.Frag} {p : Addr} {H J : Hp} {v : V} {d : PyData} (k : Keep p H J) (h : Dt K p H v d) : Dt K p J v d := dpSame k.s d v h
theorem Keep.all {K : PySem.W.Frag} {p : Addr} {H J : Hp} {vs : List V} {ds : List PyData} (k : Keep p H J) (h : DpAll K (off p H) vs ds) : DpAll K (off p J) vs ds := dpAllSame k.s ds vs h
theorem dt_tup {K : PySem.W.Frag} {p t : Addr} {H : Hp} {vs : List V} {ds : List PyData} (tp : t ≠ p) (ht : H t = none) (h : DpAll K (off p H) vs ds) : Dt K p (upd H t (.tup vs)) (.ref t) (.tuple ds) :=
  .tup (SqT.of (off_at tp upd_same)) (Keep.all (Keep.new ht) h)
theorem dt_lst {K : PySem.W.Frag} {p t : Addr} {H : Hp} {vs : List V} {ds : List PyData} (tp : t ≠ p) (ht : H t = none) (h : DpAll K (off p H) vs ds) : Dt K p (upd H t (.lst vs)) (.ref t) (.list ds) :=
  .lst (SqL.of (off_at tp upd_same)) (Keep.all (Keep.new ht) h)
theorem dpAll_snoc {K : PySem.W.Frag} {H : Hp} {vs : List V} {ds : List PyData} {v : V} {d : PyData} (a : DpAll K H vs ds) (b : Dp K H v d) : DpAll K H (vs ++ [v]) (ds ++ [d]) := dpAll_append a (.cons b .nil)
theorem niceAll_append {e : Nat} (a b : List PyData) : niceAll e (a ++ b) = (niceAll e a && niceAll e b) := by
  induction a with
  | nil => simp [niceAll]
  | cons x a ih => simp [niceAll, ih, Bool.and_assoc]
theorem niceAll_reverse {e : Nat} {a : List PyData} (h : niceAll e a = true) : niceAll e a.reverse = true :=
  niceAll_iff.mpr fun d hd => niceAll_iff.mp h d (List.mem_reverse.mp hd)
theorem depthAll_reverse (a : List PyData) : PyData.depthAll a.reverse = PyData.depthAll a :=
  Nat.le_antisymm (depthAll_le.mpr fun d hd => depthAll_le.mp (Nat.le_refl _) d (List.mem_reverse.mp hd)) (depthAll_le.mpr fun d hd => depthAll_le.mp (Nat.le_refl _) d (List.mem_reverse.mpr hd))
theorem split_at {α : Type} {l : List α} {j : Nat} {x : α} (h : l[j]? = some x) : l = l.take j ++ x :: l.drop (j + 1) := by
  have hj := (List.getElem?_eq_some_iff.mp h).1
  have e := (List.getElem?_eq_some_iff.mp h).2
  rw [← e, List.getElem_cons_drop, List.take_append_drop]
theorem cut_to (xs : List V) (j : Nat) (h : j ≤ xs.length) : cutV xs none (some (j : Int)) = xs.take j := by
  unfold cutV
  rw [HT.sIx_none, HT.sIx_nat, List.drop_zero, Nat.sub_zero, Nat.min_eq_left h]
theorem cut_from (xs : List V) (j : Nat) (h : j ≤ xs.length) : cutV xs (some (j : Int)) none = xs.drop j := by
  unfold cutV
  rw [HT.sIx_none, HT.sIx_nat, Nat.min_eq_left h, List.take_of_length_le (by rw [List.length_drop]; exact Nat.le_refl _)]
theorem isA_tup {d : PyData} (h : isA "tuple" d = true) : ∃ ds, d = .tuple ds := by
  cases d <;> first | exact ⟨_, rfl⟩ | (exfalso; revert h; simp [isA, isS, kindD])
theorem isA_int {d : PyData} (h : isA "int" d = true) (hb : isA "bool" d = false) : ∃ i, d = .int i := by
  cases d <;> first | exact ⟨_, rfl⟩ | (exfalso; revert h hb; simp [isA, isS, kindD])
theorem Dt.get {K : PySem.W.Frag} {p : Addr} {H : Hp} {v : V} {ds : List PyData} (h : Dt K p H v (.tuple ds)) : ∃ (a : Addr) (xs : List V), v = .ref a ∧ SqT K H a xs ∧ DpAll K (off p H) xs ds := by
  cases h with | tup h1 h2 => exact ⟨_, _, rfl, sameT off_in h1, h2⟩
theorem dt_of {K : PySem.W.Frag} {p t : Addr} {H : Hp} {n : Nat} {xs : List V} {ds : List PyData} (D : Deck K H p n) (h : SqT K H t xs) (a : DpAll K (off p H) xs ds) : Dt K p H (.ref t) (.tuple ds) := by
  obtain ⟨_, _, _, _, hp, _⟩ := D
  exact .tup (tup_off hp h) a
theorem paired_snoc {α β : Type} {F : α → β → Prop} : ∀ {as : List α} {bs : List β} {a : α} {b : β}, Paired F as bs → F a b → Paired F (as ++ [a]) (bs ++ [b])
  | _, _, _, _, .nil, h => .cons h .nil
  | _, _, _, _, .cons r t, h => .cons r (paired_snoc t h)
/-- on the way through a list of data: what has been made so far -/
structure Acc (K : PySem.W.Frag) (p : Addr) (n : Nat) (H0 H : Hp) (vs : List V) (ds : List PyData) : Prop where
  dk : Deck K H p n
  al : DpAll K (off p H) vs ds
  kp : Keep p H0 H
section
variable {K : PySem.W.Frag} {p t : Addr} {n : Nat} {vs us : List V} {ds es : List PyData} {H0 H J : Hp}
theorem Acc.same (a : Acc K p n H0 H vs ds) (s : Same H J) : Acc K p n H0 J vs ds := ⟨a.dk.of_same s, Keep.all (Keep.of_same s) a.al, a.kp.trans (Keep.of_same s)⟩
theorem Acc.new {o : HO} (a : Acc K p n H0 H vs ds) (h : H t = none) : Acc K p n H0 (upd H t o) vs ds := a.same (same_new h)
theorem Acc.add {v : V} {d : PyData} (a : Acc K p n H0 H vs ds) (b : Dt K p H v d) : Acc K p n H0 H (vs ++ [v]) (ds ++ [d]) := ⟨a.dk, dpAll_snoc a.al b, a.kp⟩
theorem Acc.keep {m : Nat} (a : Acc K p n H0 H vs ds) (k : Keep p H J) (D : Deck K J p m) : Acc K p m H0 J vs ds := ⟨D, k.all a.al, a.kp.trans k⟩
end
theorem dpAll_flat {K : PySem.W.Frag} {H : Hp} {vs : List V} {ds : List PyData} (h : DpAll K H vs ds) : ∀ n : Nat, DpAll K H (List.replicate n vs).flatten (List.replicate n ds).flatten
  | 0 => .nil
  | n + 1 => by
    rw [List.replicate_succ, List.replicate_succ, List.flatten_cons, List.flatten_cons]
    exact dpAll_append h (dpAll_flat h n)
theorem wt_flat (ds : List PyData) : ∀ n : Nat, wtAll (List.replicate n ds).flatten = n * wtAll ds
  | 0 => by simp [wtAll]
  | n + 1 => by
    rw [List.replicate_succ, List.flatten_cons, wtAll_append, wt_flat ds n, Nat.succ_mul]
    omega
theorem mem_flat {ds : List PyData} {d : PyData} : ∀ {n : Nat}, d ∈ (List.replicate n ds).flatten → d ∈ ds := fun {n} h => by
  obtain ⟨l, hl, hd⟩ := List.mem_flatten.mp h
  rw [List.eq_of_mem_replicate hl] at hd
  exact hd
theorem wt_take (ds : List PyData) (j : Nat) : wtAll (ds.take j) ≤ wtAll ds := by
  have := congrArg wtAll (List.take_append_drop j ds)
  rw [wtAll_append] at this
  omega
theorem wt_drop (ds : List PyData) (j : Nat) : wtAll (ds.drop j) ≤ wtAll ds := by
  have := congrArg wtAll (List.take_append_drop j ds)
  rw [wtAll_append] at this
  omega
/-- tuples and lists of small items -/
theorem tiny_tup {e W m : Nat} {ds : List PyData} (h : ∀ d ∈ ds, nice e d = true ∧ d.depth ≤ m) (hw : wtAll ds < W) : Tiny e W (m + 1) (.tuple ds) ∧ Tiny e W (m + 1) (.list ds) := by
  have a : niceAll e ds = true := niceAll_iff.mpr fun d hd => (h d hd).1
  have b : PyData.depthAll ds ≤ m := depthAll_le.mpr fun d hd => (h d hd).2
  refine ⟨⟨by simpa only [nice] using a, by simp only [wt]; omega, by simp only [PyData.depth]; omega⟩, ⟨by simpa only [nice] using a, by simp only [wt]; omega, by simp only [PyData.depth]; omega⟩⟩

/-! ### the places at which a row of numbers changes -/
def changesP (ns : List Int) (i : Nat) : Bool := ns[i + 1]? != ns[i]?
def changesI (ns : List Int) : List Int := ((List.range (ns.length - 1)).filter (changesP ns)).map fun i : Nat => 1 + (i : Int)

/-! ### where a course changes -/
def sp_changes (K : PySem.W.Frag) (tb : Addr) : Sp := fun vs H Q _ => ∃ (a : Addr) (ns : List Int), vs = [.ref a] ∧ SqT K H a (ns.map V.int) ∧ ns.length ≤ sizeLine ∧ GxR.TabG H tb ∧
  ∀ (t : Addr) (J : Hp), Grow H J → J t = some (.tup ((changesI ns).map V.int)) → Q (.ref t) J
section
variable {P : Program} {w : World} {K : PySem.W.Frag} {mg : Str → Option Value} {base : Heap}
theorem ok_changes (T : Txt K mg) (TB : GxR.TabB base mg T.c_changes_of T.p_changes_of) : FnOk P w K mg base CX0 2 T.a_changes_of T.d_changes_of ["course"] (sp_changes K T.p_changes_of) := by
  refine Fun.okC T.F_changes_of T.h_changes_of sc_changes_of (fun vs H Q E h => ?_) (fun A outer s H vs Q E hr h => ?_)
  · obtain ⟨a, ns, rfl, _⟩ := h
    rfl
  · obtain ⟨a, ns, rfl, hx, hl, hT, k⟩ := h
    refine ⟨_, (pss_one (ps_ret (pe_tupG (c := T.c_changes_of) (P := T.p_changes_of) hr (by rfl) T.m_tuple TB rfl ⟨rfl, rfl, by decide +kernel, rfl, rfl, gen_free (by decide +kernel)⟩ (pe_callTy (T := "range") cr_rangeTwo (by rfl) T.m_range (by decide +kernel) (pa_cons pe_int (pa_cons (pe_callB (id := "len") call_len_seq (by rfl) T.m_len (by decide +kernel) (pa_cons (pv 0) pa_nil)) pa_nil))) (fun _ => rfl) rfl))), ?_⟩
    refine ⟨_, rfl, a, _, rfl, .inr hx, 1, _, rfl, fun r hr => ?_⟩
    have g1 : Grow H (upd H r (.rng 1 ((ns.map V.int).length : Int))) := Grow.new hr
    have el : (((ns.map V.int).length : Int) - 1).toNat = ns.length - 1 := by rw [List.length_map]; omega
    have hl' : (ns.map V.int).length ≤ sizeLine := by rw [List.length_map]; exact hl
    have l63 : (ns.length : Int) < 2 ^ 62 := by
      have h9 : (sizeLine : Int) < 2 ^ 62 := by decide
      omega
    refine ⟨r, 1, _, changesP ns, fun i => 1 + (i : Int), rfl, upd_same, by decide, by decide, by omega, by rw [List.length_map]; exact l63, by rw [el]; omega, g1.t.tab hT, ?_, fun t H2 hB ht => ?_⟩
    · intro pins s1 I1
      obtain ⟨u, c, ru, hc, hcell⟩ := Inv.freeAt (i := 0) (x := "course") I1 rfl rfl rfl
      have eu : u = .ref a := ru
      subst eu
      obtain ⟨its, rv, ht, _⟩ := I1.tuple (g1.tup hx)
      obtain ⟨ps, hps, _⟩ := g1.t.tab hT
      have hP := I1.hok _ _ hps
      intro cenv A' E' i t s2 m2 hi hsc hcl hA hns hm2 hk
      rw [el] at hi
      have hkind : cenv.scope.kind = .function := by rw [hsc]
      have ht2 : IsTup s2.heap a its.toArray := by
        obtain ⟨o, ho, hc1, n, hd⟩ := ht
        refine ⟨o, hk a o (fun z => ?_) ho, hc1, n, hd⟩
        rw [z, hP] at ho
        cases ho
        cases hd
      have hcell2 : s2.heap.IsCell c (some (.ref a)) := by
        obtain ⟨o, ho, hd⟩ := hcell
        refine ⟨o, hk c o (fun z => ?_) ho, hd⟩
        rw [z, hP] at ho
        cases ho
        cases hd
      have hcc : cenv.cells.lookup ("course" : Str) = some c := by rw [hcl]; exact clo_at hc _ _ (Or.inl (by decide +kernel))
      have gc : ∀ p : Pos, GV P w A' cenv s2 (.Name "course" p) (· = .ref a) := fun p => gv_free hkind (by rw [hsc]; rfl) hcc hcell2 rfl
      have gm : ∀ p : Pos, GV P w A' cenv s2 (.Name "moment" p) (IsI (1 + (i : Int))) := fun p => gv_loc hkind (by rw [hsc]; rfl) hns hm2 ⟨_, rfl⟩
      have at1 : atI (ns.map V.int) (1 + (i : Int)) = some (.int ns[i + 1]) := by
        rw [show (1 + (i : Int)) = ((i + 1 : Nat) : Int) by omega]
        refine atI_nat ?_
        rw [List.getElem?_map, List.getElem?_eq_getElem (by omega)]
        rfl
      have at0 : atI (ns.map V.int) (1 + (i : Int) - 1) = some (.int ns[i]) := by
        rw [show (1 + (i : Int) - 1) = (i : Int) by omega]
        refine atI_nat ?_
        rw [List.getElem?_map, List.getElem?_eq_getElem (by omega)]
        rfl
      have ep : changesP ns i = (ns[i + 1] != ns[i]) := by
        unfold changesP
        rw [List.getElem?_eq_getElem (by omega), List.getElem?_eq_getElem (by omega)]
        rfl
      refine ⟨?_, fun _ => ?_⟩
      · rw [ep]
        exact gt_ne (gv_ix (gc _) (gm _) ht2 rv hl' at1 (fun u hu => hu) (fun _ _ => rfl)) (gv_ix (gc _) (gv_sub (gm _) gv_int) ht2 rv hl' at0 (fun u hu => hu) (fun _ _ => rfl)) (by with_unfolding_all rfl) E'
      · exact (gm _) _ _ (GxR.keeps_refl _)
    · rw [el] at *
      exact k t _ ((g1.trans (Grow.tabbed (g1.t.tab hT) hB)).write (Grow.free (g1.trans (Grow.tabbed (g1.t.tab hT) hB)) ht)) (by rw [upd_same]; unfold changesI; rw [List.map_map]; rfl)
end

/-! ### the law's own word on changes and rest -/
def gapsB (r : Int) (cs : List Int) : Bool := (cs.zip (cs.drop 1)).all fun p => !decide (p.2 - p.1 < r)
def keptB (ns : List Int) (r : Int) : Bool := gapsB r (changesI ns)
def sp_kept (K : PySem.W.Frag) : Sp := fun vs H Q _ => ∃ (a : Addr) (r : Int) (ns : List Int), vs = [.ref a, .int r] ∧ SqA K H a (ns.map V.int) ∧ ns.length ≤ 4000 ∧ ∀ J, Same H J → Q (.bl (keptB ns r)) J
theorem small1000' {n : Nat} (h : n ≤ 5000) : n < sizeLine := Nat.lt_of_le_of_lt h (by decide)
theorem int_nat {ns : List Int} {i : Nat} {z : Int} (h : ns[i]? = some z) : atI (ns.map V.int) (i : Int) = some (.int z) := by
  refine atI_nat ?_
  rw [List.getElem?_map, h]
  rfl
theorem cut_one (xs : List V) : cutV xs (some 1) none = xs.drop 1 := by
  cases xs with
  | nil => rfl
  | cons x r => exact cut_from (x :: r) 1 (by rw [List.length_cons]; omega)
/-- the first i places at which it changes -/
def chg (ns : List Int) (i : Nat) : List Int := ((List.range i).filter (changesP ns)).map fun i : Nat => 1 + (i : Int)
theorem chg_len (ns : List Int) (i : Nat) : (chg ns i).length ≤ i := by
  unfold chg
  rw [List.length_map]
  exact Nat.le_trans (List.length_filter_le _ _) (by rw [List.length_range]; exact Nat.le_refl _)
theorem chg_succ (ns : List Int) (i : Nat) : chg ns (i + 1) = if changesP ns i = true then chg ns i ++ [1 + (i : Int)] else chg ns i := by
  unfold chg
  rw [List.range_succ, List.filter_append, List.map_append]
  split
  · rename_i h
    simp [h]
  · rename_i h
    simp [h]
theorem changesP_at {ns : List Int} {i : Nat} {x y : Int} (hx : ns[i + 1]? = some x) (hy : ns[i]? = some y) : changesP ns i = (x != y) := by
  unfold changesP
  rw [hx, hy]
  rfl
section
variable {P : Program} {w : World} {K : PySem.W.Frag} {mg : Str → Option Value} {base : Heap}
theorem ok_kept (T : Txt K mg) : FnOk P w K mg base CX0 1 T.a_rest_kept T.d_rest_kept ["_law_course_here", "_law_rest"] (sp_kept K) := by
  refine T.F_rest_kept.ok sc_rest_kept (fun vs H Q E h => ?_) (fun cdv A outer s H vs Q E hr h => ?_)
  · obtain ⟨a, r, ns, rfl, _⟩ := h
    rfl
  · obtain ⟨a, r, ns, rfl, hx, hl, k⟩ := h
    refine ⟨_, (pss_cons (ps_setLc (i := 2) (own := [("_law_moment", 3)]) (g := gName 3) (by rfl) sc_rest_kept.nd rfl rfl (sw_true rfl rfl rfl (by decide +kernel)) (pi_range2 (by rfl) T.m_range (pa_cons pe_int (pa_cons (pe_callB (id := "len") call_len_seq (by rfl) T.m_len (by decide +kernel) (pa_cons (pv 0) pa_nil)) pa_nil))) (blkOk_by (own := [("_law_moment", 3)]) (N := ["_law_course_here", "_law_rest", "_law_some", "_law_moment", "_law_one_here", "_law_other"]) (sc := defScope s_rest_kept) (by decide +kernel)) (fun _ _ _ _ _ => (pg_name (i := 3) sc_rest_kept.nd rfl (Or.inl rfl))) (fun _ _ _ _ _ => (pts_one (pt_cmpR op_ne (pe_ix (ixSK K rfl) (pv 0) (pv 3) (fun _ _ => rfl)) (pe_ix (ixSK K rfl) (pv 0) (pe_op op_sub (pv 3) pe_int) (fun _ _ => rfl)) (nomark _)))) (fun _ _ _ _ _ => (pv 3)))
      (pss_one (ps_ret (pe_cmpR (op_eqD hr.units) (pe_lc (own := [("_law_one_here", 4), ("_law_other", 5)]) (g := gTup K 2 (gCons (gName 4) (gCons (gName 5) gNil))) (by rfl) sc_rest_kept.nd (pi_zip (by rfl) T.m_zip (pa_cons (pv 2) (pa_cons (pe_slice sl_list (pv 2) (po_some pe_int) po_none) pa_nil))) (blkOk_by (own := [("_law_one_here", 4), ("_law_other", 5)]) (N := ["_law_course_here", "_law_rest", "_law_some", "_law_moment", "_law_one_here", "_law_other"]) (sc := defScope s_rest_kept) (by decide +kernel)) (fun _ _ _ _ _ => (pg_pairK K (i := 4) (j := 5) rfl rfl sc_rest_kept.nd rfl (Or.inl rfl) rfl (Or.inl rfl))) (fun _ _ _ _ _ => (pts_one (pt_cmpR op_lt (pe_op op_sub (pv 5) (pv 4)) (pv 1) (nomark _)))) (fun _ _ _ _ _ => pe_int)) (pe_lst pa_nil) (nomark _))))), ?_⟩
    have hl' : (ns.map V.int).length = ns.length := List.length_map ..
    refine ⟨_, rfl, a, _, rfl, hx, ?_⟩
    refine ⟨1, _, rfl, ⟨by decide, by decide, by omega, by omega⟩, fun F hF => ?_⟩
    rw [hl']
    refine lc_range (lo := 1) (n := ((ns.length : Int) - 1).toNat) (fun i J => J = upd H F (.lst ((chg ns i).map V.int))) rfl ?_ ?_
    · rintro i J hi rfl
      have hx' := hx.same (same_new (o := .lst ((chg ns i).map V.int)) hF)
      refine ⟨rfl, ?_⟩
      have g1 : ns[i + 1]? = some ns[i + 1] := List.getElem?_eq_getElem (by omega)
      have g0 : ns[i]? = some ns[i] := List.getElem?_eq_getElem (by omega)
      refine ⟨_, rfl, _, rfl, rIx_of hx' (show atI (ns.map V.int) (1 + (i : Int)) = _ by rw [show (1 + (i : Int)) = ((i + 1 : Nat) : Int) by omega]; exact int_nat g1) ?_⟩
      refine ⟨_, rfl, _, rfl, _, _, rfl, rfl, rIx_of hx' (show atI (ns.map V.int) (1 + (i : Int) - 1) = _ by rw [show (1 + (i : Int) - 1) = (i : Int) by omega]; exact int_nat g0) ?_⟩
      refine ⟨rfl, _, rfl, ?_⟩
      have es := chg_succ ns i
      have le := chg_len ns i
      rw [show (!decide (V.int ns[i + 1] = V.int ns[i])) = changesP ns i by rw [dec_int, changesP_at g1 g0]; rfl]
      refine ite2 (fun e => ?_) (fun e => ?_)
      · rw [if_pos e] at es
        refine ⟨_, rfl, _, upd_same, small1000' (by rw [List.length_map]; omega), ?_⟩
        rw [upd_upd, es, List.map_append]
        rfl
      · rw [if_neg e] at es
        rw [es]
    · rintro J rfl
      have ec : chg ns ((ns.length : Int) - 1).toNat = changesI ns := by
        have : ((ns.length : Int) - 1).toNat = ns.length - 1 := by omega
        rw [this]
        rfl
      rw [ec]
      have s1 : Same H (upd H F (.lst ((changesI ns).map V.int))) := same_new hF
      have cl : (changesI ns).length ≤ ns.length := Nat.le_trans (chg_len ns (ns.length - 1)) (by omega)
      refine ⟨_, rfl, _, rfl, 1, rfl, F, _, rfl, SqL.of upd_same, fun c hc => ?_⟩
      have e1 : cutV ((changesI ns).map V.int) (some 1) none = ((changesI ns).drop 1).map V.int := by rw [cut_one, List.map_drop]
      have e2 : keptB ns r = gapsB r (changesI ns) := rfl
      rw [e2] at k
      generalize changesI ns = cs at *
      have hFc : F ≠ c := ne_of_none upd_same hc
      have s2 := s1.trans (same_new (o := .lst (cutV (cs.map V.int) (some 1) none)) hc)
      generalize hH2 : upd (upd H F (.lst (cs.map V.int))) c (.lst (cutV (cs.map V.int) (some 1) none)) = H2 at *
      have hF2 : H2 F = some (.lst (cs.map V.int)) := by rw [← hH2, upd_ne hFc]; exact upd_same
      have hc2 : H2 c = some (.lst ((cs.drop 1).map V.int)) := by rw [← hH2, upd_same, e1]
      refine ⟨F, c, cs.map V.int, (cs.drop 1).map V.int, rfl, SqL.of hF2, SqL.of hc2, fun D hD => ?_⟩
      let f : Int × Int → Bool := fun p => !decide (p.2 - p.1 < r)
      have zl : (cs.zip (cs.drop 1)).length = min (cs.map V.int).length ((cs.drop 1).map V.int).length := by rw [List.length_zip, List.length_map, List.length_map]
      refine lc_it (walk_zip zl) (fun i J => Same H2 J ∧ ∃ n, J D = some (.lst ((List.replicate n (1 : Int)).map V.int)) ∧ n ≤ i ∧ (n = 0 ↔ ((cs.zip (cs.drop 1)).take i).all f = true)) ⟨same_new hD, 0, upd_same, Nat.le_refl _, by simp⟩
        (fun i J _ ⟨S, _⟩ => ⟨SqL.of (S _ _ hF2), SqL.of (S _ _ hc2)⟩) ?_ ?_
      · rintro i v J J' hi ⟨S, n, hDn, hn, iff⟩ ⟨Tp, x', y', rfl, hT, rfl, hx', hy'⟩
        have ei : (cs.zip (cs.drop 1))[i]? = some ((cs.zip (cs.drop 1))[i]) := List.getElem?_eq_getElem hi
        generalize (cs.zip (cs.drop 1))[i] = pr at ei
        obtain ⟨u, y⟩ := pr
        have ez := List.getElem?_zip_eq_some.mp ei
        have hx' : (cs.map V.int)[i]? = some x' := hx'
        have hy' : ((cs.drop 1).map V.int)[i]? = some y' := hy'
        rw [List.getElem?_map, ez.1] at hx'
        rw [List.getElem?_map, ez.2] at hy'
        cases hx'
        cases hy'
        have TD : Tp ≠ D := (ne_of_none hDn hT).symm
        have S' : Same H2 (upd J Tp (.tup [.int u, .int y])) := S.trans (same_new hT)
        have tk : (cs.zip (cs.drop 1)).take (i + 1) = (cs.zip (cs.drop 1)).take i ++ [(u, y)] := by rw [List.take_add_one, ei]; rfl
        refine ⟨Tp, _, rfl, SqT.of upd_same, rfl, _, _, rfl, _, _, rfl, rfl, rfl, ?_⟩
        refine ⟨_, rfl, _, rfl, _, _, rfl, rfl, _, rfl, _, _, rfl, rfl, _, rfl, ?_⟩
        refine ite2 (fun e => ?_) (fun e => ?_)
        · refine ⟨_, by rw [upd_ne TD.symm]; exact hDn, small1000' (by rw [List.length_map, List.length_replicate]; rw [zl, List.length_map] at hi; omega), fun b o hb => ?_, n + 1, ?_, by omega, ?_⟩
          · rw [upd_ne (ne_of_none hb hD)]
            exact S' b o hb
          · rw [upd_same, List.replicate_succ', List.map_append]
            rfl
          · rw [tk, List.all_append]
            simp only [List.all_cons, List.all_nil, Bool.and_true, f, e]
            simp
        · refine ⟨S', n, by rw [upd_ne TD.symm]; exact hDn, by omega, ?_⟩
          rw [tk, List.all_append, iff]
          have e' : decide (y - u < r) = false := by simpa using e
          simp only [List.all_cons, List.all_nil, Bool.and_true, f, e', Bool.not_false]
      · rintro J ⟨S, n, hDn, hn, iff⟩
        refine ⟨Nat.zero_le _, fun q hq => ?_⟩
        have sq : Same J (upd J q (.lst [])) := same_new hq
        refine ⟨.list ((List.replicate n (1 : Int)).map PyData.int), .list [], .lst (SqL.of (sq _ _ hDn)) (ints_dp _), .lst (SqL.of upd_same) .nil, ints_shaped _, by decide, ?_⟩
        rw [ints_nil]
        have e3 : (List.replicate n (1 : Int)).isEmpty = gapsB r cs := by
          rw [List.take_of_length_le (Nat.le_refl _)] at iff
          unfold gapsB
          rw [Bool.eq_iff_iff, ← iff]
          simp
        rw [e3]
        exact k _ ((s2.trans S).trans sq)
end

/-! ### for how long the head must stay -/
def holdI (r : Int) (ns : List Int) : Int := match (changesI ns).getLast? with
  | none => 0
  | some c => max 0 (r - 1 - ((ns.length : Int) - 1 - c))

/-! ### a drawn course -/
theorem atI_last {α : Type} {xs : List α} {v : α} (h : xs.getLast? = some v) : atI xs (-1) = some v := by
  unfold atI ixN
  have h0 : 0 < xs.length := by
    cases xs with
    | nil => cases h
    | cons _ _ => simp
  rw [if_neg (by decide), if_pos (by omega), Option.bind_some]
  rw [List.getLast?_eq_getElem?] at h
  rw [show ((-1 : Int) + (xs.length : Int)).toNat = xs.length - 1 by omega]
  exact h
def InZ (z : Int) (ns : List Int) : Prop := ∀ x ∈ ns, 0 ≤ x ∧ x < z
theorem last_in {z : Int} {ns : List Int} (h : InZ z ns) (n0 : ns ≠ []) : ∃ x, (ns.map V.int).getLast? = some (.int x) ∧ ns.getLast? = some x ∧ 0 ≤ x ∧ x < z := by
  refine ⟨ns.getLast n0, ?_, List.getLast?_eq_some_getLast n0, h _ (List.getLast_mem n0)⟩
  rw [List.getLast?_map, List.getLast?_eq_some_getLast n0]
  rfl
def sp_course (K : PySem.W.Frag) : Sp := fun vs H Q _ => ∃ (p th : Addr) (z r g many : Int) (n : Nat), vs = [.ref p, .ref th, .int many] ∧ H th = some (.tup [.int z, .int r, .int g]) ∧ 2 ≤ z ∧ z ≤ 4 ∧ 1 ≤ many ∧ many ≤ 100 ∧ Deck K H p n ∧ n < 500000 ∧
  ∀ (ns : List Int) (t : Addr) (J : Hp) (m : Nat), (ns.length : Int) = many → InZ z ns → J t = some (.tup (ns.map V.int)) → H t = none → n ≤ m → m ≤ n + 202 → Deck K J p m → Keep p H J → Q (.ref t) J
section
variable {P : Program} {w : World} {K : PySem.W.Frag} {mg : Str → Option Value} {base : Heap}
theorem ok_course (T : Txt K mg) : FnOk P w K mg base CX0 3 T.a_course T.d_course ["_law_deck_here", "_law_house_here", "_law_many"] (sp_course K) := by
  have G_draw : FnOk P w K mg base CX0 1 T.a_draw T.d_draw ["_law_deck_here", "_law_many"] (sp_draw K) := ok_draw T
  have G_one : FnOk P w K mg base CX0 2 T.a_one T.d_one ["_law_deck_here", "_law_items"] (sp_one K) := ok_one T
  have G_rest_kept : FnOk P w K mg base CX0 1 T.a_rest_kept T.d_rest_kept ["_law_course_here", "_law_rest"] (sp_kept K) := ok_kept T
  refine T.F_course.ok sc_course (fun vs H Q E h => ?_) (fun cdv A outer s H vs Q E hr h => ?_)
  · obtain ⟨p, th, z, r, g, many, n, rfl, _⟩ := h
    rfl
  · obtain ⟨p, th, z, r, g, many, n, rfl, ht, z2, z4, m1, m100, D, hn, k⟩ := h
    refine ⟨_, (pss_cons (ps_par (i := 3) (j := 4) (by rfl) sc_course.nd rfl rfl (by decide) rfl rfl (pa_cons (pe_lst (pa_cons (pe_call G_draw (hr.mono (by omega)) (by rfl) T.g_draw T.F_draw.kp T.b_draw .nil pass0 (pa_cons (pv 0) (pa_cons (pe_ix ix_tup (pv 1) pe_int (fun _ _ => rfl)) pa_nil))) pa_nil)) (pa_cons (pe_call G_one (hr.mono (by omega)) (by rfl) T.g_one T.F_one.kp T.b_one .nil pass0 (pa_cons (pv 0) (pa_cons (pe_lst (pa_cons pe_int (pa_cons pe_int (pa_cons pe_int pa_nil)))) pa_nil))) pa_nil)) (by rfl))
      (pss_cons (ps_for PassesOwn.never rfl (pi_range1 (by rfl) T.m_range (pa_cons (pe_op op_sub (pv 2) pe_int) pa_nil)) (pg_name (i := 5) sc_course.nd rfl (Or.inl rfl))
        (pss_cons (ps_set (i := 6) sc_course.nd rfl (Or.inl rfl) (pe_ix ix_list (pv 3) (pe_un un_neg pe_int) (fun _ _ => rfl)))
      (Evl.pss_cut (ps_if (pt_cmpR op_eq (pe_call G_draw (hr.mono (by omega)) (by rfl) T.g_draw T.F_draw.kp T.b_draw .nil pass0 (pa_cons (pv 0) (pa_cons (pv 4) pa_nil))) pe_int (nomark _))
        (pss_one (ps_set (i := 6) sc_course.nd rfl (Or.inl rfl) (pe_call G_draw (hr.mono (by omega)) (by rfl) T.g_draw T.F_draw.kp T.b_draw .nil pass0 (pa_cons (pv 0) (pa_cons (pe_ix ix_tup (pv 1) pe_int (fun _ _ => rfl)) pa_nil)))))
        pss_nil)
      (Evl.pss_cut (ps_if (pt_not (pt_val (pe_call G_rest_kept (hr.mono (by omega)) (by rfl) T.g_rest_kept T.F_rest_kept.kp T.b_rest_kept .nil pass0 (pa_cons (pe_op op_cat (pv 3) (pe_lst (pa_cons (pv 6) pa_nil))) (pa_cons (pe_ix ix_tup (pv 1) pe_int (fun _ _ => rfl)) pa_nil)))))
        (pss_one (ps_set (i := 6) sc_course.nd rfl (Or.inl rfl) (pe_ix ix_list (pv 3) (pe_un un_neg pe_int) (fun _ _ => rfl))))
        pss_nil)
      (pss_one (ps_expr (pe_bm PySem.F.plainAttrs_list PySem.F.slot_list_append PySem.F.type_list_append mt_append (pv 3) (pa_cons (pv 6) pa_nil))))))))
      (pss_one (ps_ret (pe_callTy (T := "tuple") call_tuple_of (by rfl) T.m_tuple (by decide +kernel) (pa_cons (pv 3) pa_nil)))))), ?_⟩
    have th0 : th ≠ p := D.ne_tup ht
    refine ⟨_, rfl, _, rfl, th, _, 0, _, rfl, rfl, SqT.of ht, rfl, p, z, n, rfl, by omega, by omega, D, by omega, fun x0 J0 x1 x2 D0 K0 => ?_⟩
    refine ⟨by show 1 ≤ sizeLine; decide, fun F hF => ?_⟩
    have FP : F ≠ p := D0.ne_new hF
    refine ⟨_, rfl, by show 3 ≤ sizeLine; decide, fun l hl => ?_⟩
    refine ⟨p, l, _, n + 1, rfl, SqL.of upd_same, (D0.put hF).ne_new hl, by show 0 < 3; decide, by show 3 < 100000; decide, (D0.put hF).put hl, by omega, fun j x3 J1 hx3 D1 K1 => ?_⟩
    obtain ⟨often, rfl, o1, o3⟩ : ∃ y : Int, x3 = .int y ∧ 1 ≤ y ∧ y ≤ 3 := by
      have m := List.mem_of_getElem? hx3
      simp only [List.mem_cons, List.not_mem_nil, or_false] at m
      rcases m with m | m | m
      · exact ⟨_, m, by decide, by decide⟩
      · exact ⟨_, m, by decide, by decide⟩
      · exact ⟨_, m, by decide, by decide⟩
    refine ⟨_, _, rfl, ?_⟩
    have K01 : Keep p J0 J1 := ((Keep.new hF).trans (Keep.new hl)).trans K1
    have K0H : Keep p H J0 := K0
    have hF1 : J1 F = some (.lst ([x0].map V.int)) := by
      refine K1.at FP ?_
      rw [upd_ne (ne_of_none (b := l) upd_same hl), upd_same]
      rfl
    refine ⟨_, rfl, _, _, rfl, rfl, _, rfl, by omega, by omega, for_range (lo := 0) (n := (many - 1).toNat) (fun i σ J => ∃ (y5 y6 : Option V) (ns : List Int) (m : Nat), σ = [some (.ref p), some (.ref th), some (.int many), some (.ref F), some (.int often), y5, y6] ∧ ns.length = i + 1 ∧ InZ z ns ∧ J F = some (.lst (ns.map V.int)) ∧ n + 2 ≤ m ∧ m ≤ n + 2 + 2 * i ∧ Deck K J p m ∧ Keep p J0 J)
      ⟨none, none, [x0], n + 2, rfl, rfl, fun x hx => by rw [List.mem_singleton.mp hx]; exact ⟨x1, x2⟩, hF1, Nat.le_refl _, by omega, D1, K01⟩ ?_ ?_⟩
    · rintro i σ J hi ⟨y5, y6, ns, m, rfl, hln, hz, hF', m1', m2', DJ, KJ⟩
      have n0 : ns ≠ [] := fun e => by rw [e] at hln; cases hln
      obtain ⟨la, ela, _, la0, laz⟩ := last_in hz n0
      have thJ : J th = some (.tup [.int z, .int r, .int g]) := (K0.trans KJ).at th0 ht
      refine ⟨_, rfl, _, rfl, F, _, -1, _, rfl, rfl, SqL.of hF', atI_last ela, ?_⟩
      refine ⟨fun σ' J' => ∃ (hd : Int) (m2 : Nat), σ' = [some (.ref p), some (.ref th), some (.int many), some (.ref F), some (.int often), some (.int (0 + (i : Int))), some (.int hd)] ∧ 0 ≤ hd ∧ hd < z ∧ m ≤ m2 ∧ m2 ≤ m + 2 ∧ Deck K J' p m2 ∧ Keep p J J', ?_, ?_⟩
      · refine ⟨_, rfl, _, rfl, p, often, m, rfl, by omega, by omega, DJ, by omega, fun q J2 q0 q1 D2 K2 => ?_⟩
        refine ⟨rfl, _, rfl, ite2 (fun _ => ?_) (fun _ => ⟨la, m + 1, rfl, la0, laz, by omega, by omega, D2, K2⟩)⟩
        refine ⟨_, rfl, _, rfl, th, _, 0, _, rfl, rfl, SqT.of (K2.at th0 thJ), rfl, p, z, m + 1, rfl, by omega, by omega, D2, by omega, fun q2 J3 q3 q4 D3 K3 => ?_⟩
        exact ⟨q2, m + 2, rfl, q3, q4, by omega, by omega, D3, K2.trans K3⟩
      · rintro σ' J' ⟨hd, m2, rfl, h0, h1, m3, m4, D2, K2⟩
        have hF2 := K2.at FP hF'
        have thJ' := K2.at th0 thJ
        refine ⟨fun σ' J3 => ∃ (hd : Int), σ' = [some (.ref p), some (.ref th), some (.int many), some (.ref F), some (.int often), some (.int (0 + (i : Int))), some (.int hd)] ∧ 0 ≤ hd ∧ hd < z ∧ Same J' J3, ?_, ?_⟩
        · refine ⟨_, rfl, _, rfl, by show 1 ≤ sizeLine; decide, fun q hq => ?_⟩
          have s1 : Same J' (upd J' q (.lst [.int hd])) := same_new hq
          refine ⟨F, q, _, _, rfl, rfl, s1 _ _ hF2, upd_same, by show (ns.map V.int).length + 1 ≤ sizeLine; exact Nat.le_of_lt (small1000 (by rw [List.length_map]; omega)), fun c hc => ?_⟩
          have s2 := s1.trans (same_new (o := .lst (ns.map V.int ++ [.int hd])) hc)
          refine ⟨_, rfl, th, _, 1, _, rfl, rfl, SqT.of (s2 _ _ thJ'), rfl, ?_⟩
          refine ⟨c, r, ns ++ [hd], rfl, .inl (SqL.of (by rw [upd_same, List.map_append]; rfl)), by rw [List.length_append, List.length_singleton]; omega, fun J4 S4 => ?_⟩
          refine ⟨_, rfl, ite2 (fun _ => ?_) (fun _ => ⟨hd, rfl, h0, h1, s2.trans S4⟩)⟩
          exact ⟨_, rfl, _, rfl, F, _, -1, _, rfl, rfl, SqL.of (S4 _ _ (s2 _ _ hF2)), atI_last ela, ⟨la, rfl, la0, laz, s2.trans S4⟩⟩
        · rintro σ' J3 ⟨hd', rfl, h0', h1', S3⟩
          have hF3 := S3 _ _ hF2
          have K3 : Keep p J0 J3 := (KJ.trans K2).trans (Keep.of_same S3)
          refine ⟨_, rfl, .inl ⟨rfl, _, SqL.of hF3⟩, _, rfl, F, _, _, rfl, rfl, hF3, small1000 (by rw [List.length_map]; omega), ?_⟩
          refine ⟨_, _, ns ++ [hd'], m2, rfl, by rw [List.length_append, List.length_singleton, hln], ?_, by rw [upd_same, List.map_append]; rfl, by omega, by omega, D0.write hF K3 (D2.of_same S3), K3.write hF FP⟩
          intro x hx
          rcases List.mem_append.mp hx with hx | hx
          · exact hz x hx
          · rw [List.mem_singleton.mp hx]
            exact ⟨h0', h1'⟩
    · rintro σ J ⟨y5, y6, ns, m, rfl, hln, hz, hF', m1', m2', DJ, KJ⟩
      refine ⟨_, rfl, F, _, rfl, .inl ⟨SqL.of hF', fun t ht' => ?_⟩⟩
      have KH : Keep p H J := K0.trans KJ
      refine k ns t _ m (by omega) hz upd_same (KH.free (DJ.ne_new ht') ht') (by omega) (by omega) (DJ.put ht') (KH.trans (Keep.new ht'))
end

/-! ### a drawn course -/
/-! ### courses that keep the rest -/
theorem changesP_at' {ns : List Int} {i : Nat} (h : i + 1 < ns.length) : changesP ns i = (ns[i + 1] != ns[i]) := changesP_at (List.getElem?_eq_getElem h) (List.getElem?_eq_getElem (by omega))
theorem changes_map {f : Int → Int} {ns : List Int} (inj : ∀ x ∈ ns, ∀ y ∈ ns, f x = f y → x = y) : changesI (ns.map f) = changesI ns := by
  unfold changesI
  rw [List.length_map]
  congr 1
  refine List.filter_congr fun i hi => ?_
  have hi' : i + 1 < ns.length := by have := List.mem_range.mp hi; omega
  rw [changesP_at' hi', changesP_at' (ns := ns.map f) (by rw [List.length_map]; exact hi')]
  simp only [List.getElem_map]
  by_cases e : ns[i + 1] = ns[i]
  · rw [e]; simp
  · have e2 : f ns[i + 1] ≠ f ns[i] := fun z => e (inj _ (List.getElem_mem _) _ (List.getElem_mem _) z)
    rw [bne_iff_ne.mpr e, bne_iff_ne.mpr e2]
theorem changes_last {ns : List Int} {la : Int} (h : ns.getLast? = some la) : changesI (ns ++ [la]) = changesI ns := by
  have n0 : 0 < ns.length := by
    cases ns with
    | nil => cases h
    | cons _ _ => simp
  rw [List.getLast?_eq_getElem?] at h
  unfold changesI
  congr 1
  rw [List.length_append, List.length_singleton, show ns.length + 1 - 1 = (ns.length - 1) + 1 by omega, List.range_succ, List.filter_append]
  have z : changesP (ns ++ [la]) (ns.length - 1) = false := by
    unfold changesP
    rw [show ns.length - 1 + 1 = ns.length by omega, List.getElem?_append_left (by omega : ns.length - 1 < ns.length), h]
    simp
  rw [List.filter_cons, z]
  simp only [List.filter_nil, List.append_nil, Bool.false_eq_true, if_false]
  refine List.filter_congr fun i hi => ?_
  have hi' : i + 1 < ns.length := by have := List.mem_range.mp hi; omega
  unfold changesP
  rw [List.getElem?_append_left hi', List.getElem?_append_left (by omega)]
theorem kept_last {ns : List Int} {la r : Int} (h : ns.getLast? = some la) : keptB (ns ++ [la]) r = keptB ns r := by unfold keptB; rw [changes_last h]
theorem kept_map {f : Int → Int} {ns : List Int} {r : Int} (inj : ∀ x ∈ ns, ∀ y ∈ ns, f x = f y → x = y) : keptB (ns.map f) r = keptB ns r := by unfold keptB; rw [changes_map inj]
def sp_courseK (K : PySem.W.Frag) : Sp := fun vs H Q _ => ∃ (p th : Addr) (z r g many : Int) (n : Nat), vs = [.ref p, .ref th, .int many] ∧ H th = some (.tup [.int z, .int r, .int g]) ∧ 2 ≤ z ∧ z ≤ 4 ∧ 1 ≤ many ∧ many ≤ 100 ∧ Deck K H p n ∧ n < 500000 ∧
  ∀ (ns : List Int) (t : Addr) (J : Hp) (m : Nat), (ns.length : Int) = many → InZ z ns → keptB ns r = true → J t = some (.tup (ns.map V.int)) → H t = none → n ≤ m → m ≤ n + 202 → Deck K J p m → Keep p H J → Q (.ref t) J
section
variable {P : Program} {w : World} {K : PySem.W.Frag} {mg : Str → Option Value} {base : Heap}
theorem ok_courseK (T : Txt K mg) : FnOk P w K mg base CX0 3 T.a_course T.d_course ["_law_deck_here", "_law_house_here", "_law_many"] (sp_courseK K) := by
  have G_draw : FnOk P w K mg base CX0 1 T.a_draw T.d_draw ["_law_deck_here", "_law_many"] (sp_draw K) := ok_draw T
  have G_one : FnOk P w K mg base CX0 2 T.a_one T.d_one ["_law_deck_here", "_law_items"] (sp_one K) := ok_one T
  have G_rest_kept : FnOk P w K mg base CX0 1 T.a_rest_kept T.d_rest_kept ["_law_course_here", "_law_rest"] (sp_kept K) := ok_kept T
  refine T.F_course.ok sc_course (fun vs H Q E h => ?_) (fun cdv A outer s H vs Q E hr h => ?_)
  · obtain ⟨p, th, z, r, g, many, n, rfl, _⟩ := h
    rfl
  · obtain ⟨p, th, z, r, g, many, n, rfl, ht, z2, z4, m1, m100, D, hn, k⟩ := h
    refine ⟨_, (pss_cons (ps_par (i := 3) (j := 4) (by rfl) sc_course.nd rfl rfl (by decide) rfl rfl (pa_cons (pe_lst (pa_cons (pe_call G_draw (hr.mono (by omega)) (by rfl) T.g_draw T.F_draw.kp T.b_draw .nil pass0 (pa_cons (pv 0) (pa_cons (pe_ix ix_tup (pv 1) pe_int (fun _ _ => rfl)) pa_nil))) pa_nil)) (pa_cons (pe_call G_one (hr.mono (by omega)) (by rfl) T.g_one T.F_one.kp T.b_one .nil pass0 (pa_cons (pv 0) (pa_cons (pe_lst (pa_cons pe_int (pa_cons pe_int (pa_cons pe_int pa_nil)))) pa_nil))) pa_nil)) (by rfl))
      (pss_cons (ps_for PassesOwn.never rfl (pi_range1 (by rfl) T.m_range (pa_cons (pe_op op_sub (pv 2) pe_int) pa_nil)) (pg_name (i := 5) sc_course.nd rfl (Or.inl rfl))
        (pss_cons (ps_set (i := 6) sc_course.nd rfl (Or.inl rfl) (pe_ix ix_list (pv 3) (pe_un un_neg pe_int) (fun _ _ => rfl)))
      (Evl.pss_cut (ps_if (pt_cmpR op_eq (pe_call G_draw (hr.mono (by omega)) (by rfl) T.g_draw T.F_draw.kp T.b_draw .nil pass0 (pa_cons (pv 0) (pa_cons (pv 4) pa_nil))) pe_int (nomark _))
        (pss_one (ps_set (i := 6) sc_course.nd rfl (Or.inl rfl) (pe_call G_draw (hr.mono (by omega)) (by rfl) T.g_draw T.F_draw.kp T.b_draw .nil pass0 (pa_cons (pv 0) (pa_cons (pe_ix ix_tup (pv 1) pe_int (fun _ _ => rfl)) pa_nil)))))
        pss_nil)
      (Evl.pss_cut (ps_if (pt_not (pt_val (pe_call G_rest_kept (hr.mono (by omega)) (by rfl) T.g_rest_kept T.F_rest_kept.kp T.b_rest_kept .nil pass0 (pa_cons (pe_op op_cat (pv 3) (pe_lst (pa_cons (pv 6) pa_nil))) (pa_cons (pe_ix ix_tup (pv 1) pe_int (fun _ _ => rfl)) pa_nil)))))
        (pss_one (ps_set (i := 6) sc_course.nd rfl (Or.inl rfl) (pe_ix ix_list (pv 3) (pe_un un_neg pe_int) (fun _ _ => rfl))))
        pss_nil)
      (pss_one (ps_expr (pe_bm PySem.F.plainAttrs_list PySem.F.slot_list_append PySem.F.type_list_append mt_append (pv 3) (pa_cons (pv 6) pa_nil))))))))
      (pss_one (ps_ret (pe_callTy (T := "tuple") call_tuple_of (by rfl) T.m_tuple (by decide +kernel) (pa_cons (pv 3) pa_nil)))))), ?_⟩
    have th0 : th ≠ p := D.ne_tup ht
    refine ⟨_, rfl, _, rfl, th, _, 0, _, rfl, rfl, SqT.of ht, rfl, p, z, n, rfl, by omega, by omega, D, by omega, fun x0 J0 x1 x2 D0 K0 => ?_⟩
    refine ⟨by show 1 ≤ sizeLine; decide, fun F hF => ?_⟩
    have FP : F ≠ p := D0.ne_new hF
    refine ⟨_, rfl, by show 3 ≤ sizeLine; decide, fun l hl => ?_⟩
    refine ⟨p, l, _, n + 1, rfl, SqL.of upd_same, (D0.put hF).ne_new hl, by show 0 < 3; decide, by show 3 < 100000; decide, (D0.put hF).put hl, by omega, fun j x3 J1 hx3 D1 K1 => ?_⟩
    obtain ⟨often, rfl, o1, o3⟩ : ∃ y : Int, x3 = .int y ∧ 1 ≤ y ∧ y ≤ 3 := by
      have m := List.mem_of_getElem? hx3
      simp only [List.mem_cons, List.not_mem_nil, or_false] at m
      rcases m with m | m | m
      · exact ⟨_, m, by decide, by decide⟩
      · exact ⟨_, m, by decide, by decide⟩
      · exact ⟨_, m, by decide, by decide⟩
    refine ⟨_, _, rfl, ?_⟩
    have K01 : Keep p J0 J1 := ((Keep.new hF).trans (Keep.new hl)).trans K1
    have K0H : Keep p H J0 := K0
    have hF1 : J1 F = some (.lst ([x0].map V.int)) := by
      refine K1.at FP ?_
      rw [upd_ne (ne_of_none (b := l) upd_same hl), upd_same]
      rfl
    refine ⟨_, rfl, _, _, rfl, rfl, _, rfl, by omega, by omega, for_range (lo := 0) (n := (many - 1).toNat) (fun i σ J => ∃ (y5 y6 : Option V) (ns : List Int) (m : Nat), σ = [some (.ref p), some (.ref th), some (.int many), some (.ref F), some (.int often), y5, y6] ∧ ns.length = i + 1 ∧ InZ z ns ∧ keptB ns r = true ∧ J F = some (.lst (ns.map V.int)) ∧ n + 2 ≤ m ∧ m ≤ n + 2 + 2 * i ∧ Deck K J p m ∧ Keep p J0 J)
      ⟨none, none, [x0], n + 2, rfl, rfl, fun x hx => by rw [List.mem_singleton.mp hx]; exact ⟨x1, x2⟩, rfl, hF1, Nat.le_refl _, by omega, D1, K01⟩ ?_ ?_⟩
    · rintro i σ J hi ⟨y5, y6, ns, m, rfl, hln, hz, hkp, hF', m1', m2', DJ, KJ⟩
      have n0 : ns ≠ [] := fun e => by rw [e] at hln; cases hln
      obtain ⟨la, ela, ela2, la0, laz⟩ := last_in hz n0
      have thJ : J th = some (.tup [.int z, .int r, .int g]) := (K0.trans KJ).at th0 ht
      refine ⟨_, rfl, _, rfl, F, _, -1, _, rfl, rfl, SqL.of hF', atI_last ela, ?_⟩
      refine ⟨fun σ' J' => ∃ (hd : Int) (m2 : Nat), σ' = [some (.ref p), some (.ref th), some (.int many), some (.ref F), some (.int often), some (.int (0 + (i : Int))), some (.int hd)] ∧ 0 ≤ hd ∧ hd < z ∧ m ≤ m2 ∧ m2 ≤ m + 2 ∧ Deck K J' p m2 ∧ Keep p J J', ?_, ?_⟩
      · refine ⟨_, rfl, _, rfl, p, often, m, rfl, by omega, by omega, DJ, by omega, fun q J2 q0 q1 D2 K2 => ?_⟩
        refine ⟨rfl, _, rfl, ite2 (fun _ => ?_) (fun _ => ⟨la, m + 1, rfl, la0, laz, by omega, by omega, D2, K2⟩)⟩
        refine ⟨_, rfl, _, rfl, th, _, 0, _, rfl, rfl, SqT.of (K2.at th0 thJ), rfl, p, z, m + 1, rfl, by omega, by omega, D2, by omega, fun q2 J3 q3 q4 D3 K3 => ?_⟩
        exact ⟨q2, m + 2, rfl, q3, q4, by omega, by omega, D3, K2.trans K3⟩
      · rintro σ' J' ⟨hd, m2, rfl, h0, h1, m3, m4, D2, K2⟩
        have hF2 := K2.at FP hF'
        have thJ' := K2.at th0 thJ
        refine ⟨fun σ' J3 => ∃ (hd : Int), σ' = [some (.ref p), some (.ref th), some (.int many), some (.ref F), some (.int often), some (.int (0 + (i : Int))), some (.int hd)] ∧ 0 ≤ hd ∧ hd < z ∧ keptB (ns ++ [hd]) r = true ∧ Same J' J3, ?_, ?_⟩
        · refine ⟨_, rfl, _, rfl, by show 1 ≤ sizeLine; decide, fun q hq => ?_⟩
          have s1 : Same J' (upd J' q (.lst [.int hd])) := same_new hq
          refine ⟨F, q, _, _, rfl, rfl, s1 _ _ hF2, upd_same, by show (ns.map V.int).length + 1 ≤ sizeLine; exact Nat.le_of_lt (small1000 (by rw [List.length_map]; omega)), fun c hc => ?_⟩
          have s2 := s1.trans (same_new (o := .lst (ns.map V.int ++ [.int hd])) hc)
          refine ⟨_, rfl, th, _, 1, _, rfl, rfl, SqT.of (s2 _ _ thJ'), rfl, ?_⟩
          refine ⟨c, r, ns ++ [hd], rfl, .inl (SqL.of (by rw [upd_same, List.map_append]; rfl)), by rw [List.length_append, List.length_singleton]; omega, fun J4 S4 => ?_⟩
          refine ⟨_, rfl, ite2 (fun _ => ?_) (fun e => ⟨hd, rfl, h0, h1, by simpa using e, s2.trans S4⟩)⟩
          exact ⟨_, rfl, _, rfl, F, _, -1, _, rfl, rfl, SqL.of (S4 _ _ (s2 _ _ hF2)), atI_last ela, ⟨la, rfl, la0, laz, (kept_last ela2).trans hkp, s2.trans S4⟩⟩
        · rintro σ' J3 ⟨hd', rfl, h0', h1', hk', S3⟩
          have hF3 := S3 _ _ hF2
          have K3 : Keep p J0 J3 := (KJ.trans K2).trans (Keep.of_same S3)
          refine ⟨_, rfl, .inl ⟨rfl, _, SqL.of hF3⟩, _, rfl, F, _, _, rfl, rfl, hF3, small1000 (by rw [List.length_map]; omega), ?_⟩
          refine ⟨_, _, ns ++ [hd'], m2, rfl, by rw [List.length_append, List.length_singleton, hln], ?_, hk', by rw [upd_same, List.map_append]; rfl, by omega, by omega, D0.write hF K3 (D2.of_same S3), K3.write hF FP⟩
          intro x hx
          rcases List.mem_append.mp hx with hx | hx
          · exact hz x hx
          · rw [List.mem_singleton.mp hx]
            exact ⟨h0', h1'⟩
    · rintro σ J ⟨y5, y6, ns, m, rfl, hln, hz, hkp, hF', m1', m2', DJ, KJ⟩
      refine ⟨_, rfl, F, _, rfl, .inl ⟨SqL.of hF', fun t ht' => ?_⟩⟩
      have KH : Keep p H J := K0.trans KJ
      refine k ns t _ m (by omega) hz hkp upd_same (KH.free (DJ.ne_new ht') ht') (by omega) (by omega) (DJ.put ht') (KH.trans (Keep.new ht'))
end

/-! ### the heads of the last moments -/
def headsI (ns : List Int) (m g : Nat) : List Int := (List.range (g + 1)).map fun i => ns.getD (m - i) 0

/-! ### the heads of the last moments -/
def sp_heads (K : PySem.W.Frag) (tb : Addr) : Sp := fun vs H Q _ => ∃ (th a : Addr) (z r : Int) (g m : Nat) (ns : List Int), vs = [.ref th, .ref a, .int (m : Int)] ∧ SqT K H th [.int z, .int r, .int (g : Int)] ∧ SqT K H a (ns.map V.int) ∧ g ≤ m ∧ m < ns.length ∧ ns.length ≤ 4000 ∧ GxR.TabG H tb ∧
  ∀ (t : Addr) (J : Hp), Grow H J → J t = some (.tup ((headsI ns m g).map V.int)) → Q (.ref t) J
section
variable {P : Program} {w : World} {K : PySem.W.Frag} {mg : Str → Option Value} {base : Heap}
theorem ok_heads (T : Txt K mg) (TB : GxR.TabB base mg T.c_heads_back T.p_heads_back) : FnOk P w K mg base CX0 2 T.a_heads_back T.d_heads_back ["house", "course", "moment"] (sp_heads K T.p_heads_back) := by
  refine Fun.okC T.F_heads_back T.h_heads_back sc_heads_back (fun vs H Q E h => ?_) (fun A outer s H vs Q E hr h => ?_)
  · obtain ⟨th, a, z, r, g, m, ns, rfl, _⟩ := h
    rfl
  · obtain ⟨th, a, z, r, g, m, ns, rfl, hth, hx, gm, ml, hl, hT, k⟩ := h
    refine ⟨_, (pss_cons (ps_set (i := 3) sc_heads_back.nd rfl (Or.inl rfl) (pe_ix ix_tup (pv 0) pe_int (fun _ _ => rfl)))
      (pss_one (ps_ret (pe_tupG (c := T.c_heads_back) (P := T.p_heads_back) hr (by rfl) T.m_tuple TB rfl ⟨rfl, rfl, by decide +kernel, rfl, rfl, gen_free (by decide +kernel)⟩ (pe_callTy (T := "range") cr_rangeOne (by rfl) T.m_range (by decide +kernel) (pa_cons (pe_op op_add (pv 3) pe_int) pa_nil)) (fun _ => rfl) rfl)))), ?_⟩
    refine ⟨_, rfl, th, _, 2, _, rfl, rfl, hth, rfl, ?_⟩
    refine ⟨_, rfl, _, _, rfl, rfl, _, rfl, fun q hq => ?_⟩
    have g1 : Grow H (upd H q (.rng 0 ((g : Int) + 1))) := Grow.new hq
    have el : ((g : Int) + 1 - 0).toNat = g + 1 := by omega
    have hl' : (ns.map V.int).length ≤ sizeLine := by rw [List.length_map]; exact Nat.le_trans hl (by decide)
    refine ⟨q, 0, _, fun _ => true, fun i => ns.getD (m - i) 0, rfl, upd_same, by decide, by decide, by omega, by omega, by rw [el]; exact Nat.le_trans (by omega : g + 1 ≤ 4000) (by decide), g1.t.tab hT, ?_, fun t H2 hB ht => ?_⟩
    · intro pins s1 I1
      obtain ⟨u, c, ru, hc, hcell⟩ := Inv.freeAt (i := 1) (x := "course") I1 rfl rfl rfl
      obtain ⟨u2, c2, ru2, hc2, hcell2⟩ := Inv.freeAt (i := 2) (x := "moment") I1 rfl rfl rfl
      have eu : u = .ref a := ru
      subst eu
      obtain ⟨tk2, eu2⟩ : ∃ t, u2 = .int (m : Int) t := ru2
      subst eu2
      obtain ⟨its, rv, ht, _⟩ := I1.tuple (g1.tup hx)
      obtain ⟨ps, hps, _⟩ := g1.t.tab hT
      have hP := I1.hok _ _ hps
      intro cenv A' E' i t s2 m2 hi hsc hcl hA hns hm2 hk
      rw [el] at hi
      have hkind : cenv.scope.kind = .function := by rw [hsc]
      have ht2 : IsTup s2.heap a its.toArray := by
        obtain ⟨o, ho, hc1, n, hd⟩ := ht
        refine ⟨o, hk a o (fun z => ?_) ho, hc1, n, hd⟩
        rw [z, hP] at ho
        cases ho
        cases hd
      have cellAt : ∀ {d : Addr} {v : Value}, s1.heap.IsCell d (some v) → s2.heap.IsCell d (some v) := fun {d v} hcl => by
        obtain ⟨o, ho, hd⟩ := hcl
        refine ⟨o, hk d o (fun z => ?_) ho, hd⟩
        rw [z, hP] at ho
        cases ho
        cases hd
      have hcc : cenv.cells.lookup ("course" : Str) = some c := by rw [hcl]; exact clo_at hc _ _ (Or.inl (by decide +kernel))
      have hcm : cenv.cells.lookup ("moment" : Str) = some c2 := by rw [hcl]; exact clo_at hc2 _ _ (Or.inl (by decide +kernel))
      have gc : ∀ p : Pos, GV P w A' cenv s2 (.Name "course" p) (· = .ref a) := fun p => gv_free hkind (by rw [hsc]; rfl) hcc (cellAt hcell) rfl
      have gmo : ∀ p : Pos, GV P w A' cenv s2 (.Name "moment" p) (IsI (m : Int)) := fun p => gv_free hkind (by rw [hsc]; rfl) hcm (cellAt hcell2) ⟨_, rfl⟩
      have gago : ∀ p : Pos, GV P w A' cenv s2 (.Name "ago" p) (IsI (0 + (i : Int))) := fun p => gv_loc hkind (by rw [hsc]; rfl) hns hm2 ⟨_, rfl⟩
      have at1 : atI (ns.map V.int) ((m : Int) - (0 + (i : Int))) = some (.int (ns.getD (m - i) 0)) := by
        rw [show ((m : Int) - (0 + (i : Int))) = ((m - i : Nat) : Int) by omega]
        refine atI_nat ?_
        rw [List.getElem?_map, List.getElem?_eq_getElem (by omega), List.getD_eq_getElem?_getD, List.getElem?_eq_getElem (by omega)]
        rfl
      refine ⟨gt_nil rfl _, fun _ => ?_⟩
      exact (gv_ix (gc _) (gv_sub (gmo _) (gago _)) ht2 rv hl' at1 (fun u hu => hu) (fun _ _ => rfl)) _ _ (GxR.keeps_refl _)
    · rw [el] at *
      have G := (g1.trans (Grow.tabbed (g1.t.tab hT) hB))
      refine k t _ (G.write (G.free ht)) ?_
      rw [upd_same]
      unfold headsI
      rw [List.map_map, List.filter_eq_self.mpr fun _ _ => rfl]
      rfl
end

/-! ### who may be named -/
/-- what stands in front of the first s -/
def ahead (s : Int) : List Int → List Int
  | [] => []
  | x :: r => if x = s then [] else x :: ahead s r
theorem ahead_take {s : Int} : ∀ {ns : List Int} {i : Nat}, (∀ x ∈ ns.take i, x ≠ s) → ns[i]? = some s → ahead s ns = ns.take i
  | [], i, _, h => by simp at h
  | x :: r, 0, _, h => by
    have e : x = s := by simpa using h
    simp [ahead, e]
  | x :: r, i + 1, hn, h => by
    rw [List.take_succ_cons] at hn ⊢
    have nx : x ≠ s := hn x List.mem_cons_self
    simp only [ahead, if_neg nx]
    rw [ahead_take (fun y hy => hn y (List.mem_cons_of_mem _ hy)) (by simpa using h)]
theorem ahead_all {s : Int} : ∀ {ns : List Int}, (∀ x ∈ ns, x ≠ s) → ahead s ns = ns
  | [], _ => rfl
  | x :: r, hn => by
    have nx : x ≠ s := hn x List.mem_cons_self
    simp only [ahead, if_neg nx]
    rw [ahead_all fun y hy => hn y (List.mem_cons_of_mem _ hy)]
theorem mem_ahead {s k : Int} : ∀ {l : List Int}, k ∈ ahead s l ↔ ∃ i, l[i]? = some k ∧ s ∉ l.take (i + 1)
  | [] => by simp [ahead]
  | x :: r => by
    by_cases e : x = s
    · simp only [ahead, if_pos e]
      refine ⟨fun h => absurd h List.not_mem_nil, fun ⟨i, _, h⟩ => absurd ?_ h⟩
      rw [List.take_succ_cons, e]
      exact List.mem_cons_self
    · simp only [ahead, if_neg e, List.mem_cons]
      rw [mem_ahead]
      constructor
      · rintro (h | ⟨i, h1, h2⟩)
        · exact ⟨0, by simp [h], by simp; exact fun z => e z.symm⟩
        · refine ⟨i + 1, by simpa using h1, ?_⟩
          rw [List.take_succ_cons, List.mem_cons]
          rintro (z | z)
          · exact e z.symm
          · exact h2 z
      · rintro ⟨i, h1, h2⟩
        cases i with
        | zero => exact Or.inl (by simpa using h1.symm)
        | succ i =>
          rw [List.take_succ_cons, List.mem_cons] at h2
          exact Or.inr ⟨i, by simpa using h1, fun z => h2 (Or.inr z)⟩
theorem inV_ints (s : Int) (zs : List Int) : inV (.int s) (zs.map V.int) = zs.contains s := by
  unfold inV
  rw [List.any_map]
  induction zs with
  | nil => rfl
  | cons z r ih =>
    rw [List.any_cons, ih, List.contains_cons]
    show ((z == s) || r.contains s) = ((s == z) || r.contains s)
    rw [Bool.beq_comm]
theorem flat_ints (zs : List Int) : (zs.map V.int).all flatV = true := by
  rw [List.all_map]
  exact List.all_eq_true.mpr fun _ _ => rfl
def sp_named (K : PySem.W.Frag) : Sp := fun vs H Q _ => ∃ (a : Addr) (s : Int) (ns : List Int), vs = [.ref a, .int s] ∧ SqT K H a (ns.map V.int) ∧ ns.length < 60 ∧
  ∀ (out : List Int) (t : Addr) (J : Hp), Sorted out (ahead s ns) → out.length < 60 → Same H J → J t = some (.tup (out.map V.int)) → Q (.ref t) J
theorem write_same {q : Addr} {G J : Hp} {o : HO} (k : Same G J) (h : G q = none) : Same G (upd J q o) := fun b u e => by
  rw [upd_ne (ne_of_none e h)]
  exact k b u e
section
variable {P : Program} {w : World} {K : PySem.W.Frag} {mg : Str → Option Value} {base : Heap}
theorem ok_named (T : Txt K mg) : FnOk P w K mg base CX0 1 T.a_named_by T.d_named_by ["heads", "server"] (sp_named K) := by
  refine T.F_named_by.ok sc_named_by (fun vs H Q E h => ?_) (fun cdv A outer st H vs Q E hr h => ?_)
  · obtain ⟨a, s, ns, rfl, _⟩ := h
    rfl
  · obtain ⟨a, s, ns, rfl, hx, hl, k⟩ := h
    refine ⟨_, (pss_cons (ps_set (i := 2) sc_named_by.nd rfl (Or.inl rfl) (pe_lst pa_nil))
      (pss_cons (ps_for PassesOwn.never rfl (pi_tup (pv 0)) (pg_name (i := 3) sc_named_by.nd rfl (Or.inl rfl))
        (pss_cons (ps_if (pt_cmpR op_eq (pv 3) (pv 1) (nomark _))
        (pss_one ps_break)
        pss_nil)
      (pss_one (ps_expr (pe_bm PySem.F.plainAttrs_list PySem.F.slot_list_append PySem.F.type_list_append mt_append (pv 2) (pa_cons (pv 3) pa_nil))))))
      (pss_one (ps_ret (pe_callTy (T := "tuple") call_tuple_of (by rfl) T.m_tuple (by decide +kernel) (pa_cons (pe_callB (id := "sorted") (cr_sortedSet rfl) (by rfl) T.m_sorted (by decide +kernel) (pa_cons (pe_callTy (T := "set") (cr_setN rfl) (by rfl) T.m_set (by decide +kernel) (pa_cons (pv 2) pa_nil)) pa_nil)) pa_nil)))))), ?_⟩
    refine ⟨Nat.zero_le _, fun F hF => ?_⟩
    have ll : (ns.map V.int).length = ns.length := List.length_map ..
    refine ⟨_, rfl, a, rfl, ⟨_, sameT (same_new hF) hx⟩, for_tup (K := K) (a := a) (xs := ns.map V.int) (fun i σ J => (∃ y, σ = [some (.ref a), some (.int s), some (.ref F), y]) ∧ Same H J ∧ J F = some (.lst ((ns.take i).map V.int)) ∧ ∀ x ∈ ns.take i, x ≠ s) ⟨⟨none, rfl⟩, same_new hF, upd_same, fun x hx => (List.not_mem_nil hx).elim⟩ (fun i σ J _ ⟨_, S, _⟩ => sameT S hx) ?_ ?_⟩
    · rintro i x σ J hxi ⟨⟨y, rfl⟩, S, hJ, hn⟩
      rw [List.getElem?_map] at hxi
      cases ex : ns[i]? with
      | none => rw [ex] at hxi; cases hxi
      | some v =>
      rw [ex] at hxi
      cases hxi
      refine ⟨_, rfl, _, rfl, rfl, _, rfl, ?_⟩
      rw [dec_int]
      refine ite2 (fun e => ?_) (fun e => ?_)
      · have ev : v = s := by simpa using e
        have ea := ahead_take hn (show ns[i]? = some s by rw [ex, ev])
        exact ⟨_, rfl, F, ahead s ns, rfl, .inl (SqL.of (by rw [ea]; exact hJ)), by rw [ea, List.length_take]; omega, fun p1 m lm h1 => ⟨p1, _, m, rfl, upd_same, by rw [ea, List.length_take] at lm; omega, fun out p2 o1 o2 o3 h2 => ⟨p2, _, rfl, .inl ⟨SqL.of upd_same, fun t ht =>
          k out t _ ⟨o1, fun u => by rw [o2 u]; exact decide_eq_true_iff⟩ (by rw [ea, List.length_take] at lm; omega) (((S.trans (same_new h1)).trans (same_new h2)).trans (same_new ht)) upd_same⟩⟩⟩⟩
      · have ev : v ≠ s := by simpa using e
        refine ⟨_, rfl, .inl ⟨rfl, _, SqL.of hJ⟩, _, rfl, F, _, _, rfl, rfl, hJ, small1000 (by rw [List.length_map, List.length_take]; omega), ?_⟩
        refine ⟨⟨_, rfl⟩, write_same S hF, ?_, fun x hx => ?_⟩
        · rw [upd_same, List.take_add_one, ex, List.map_append]
          rfl
        · rw [List.take_add_one, ex] at hx
          rcases List.mem_append.mp hx with hx | hx
          · exact hn x hx
          · rw [Option.toList_some, List.mem_singleton] at hx
            rw [hx]
            exact ev
    · rintro σ J ⟨⟨y, rfl⟩, S, hJ, hn⟩
      rw [ll, List.take_of_length_le (Nat.le_refl _)] at hJ hn
      have ea : ahead s ns = ns.take ns.length := by rw [ahead_all hn, List.take_of_length_le (Nat.le_refl _)]
      rw [← List.take_of_length_le (Nat.le_refl ns.length)] at hJ
      exact ⟨_, rfl, F, ahead s ns, rfl, .inl (SqL.of (by rw [ea]; exact hJ)), by rw [ea, List.length_take]; omega, fun p1 m lm h1 => ⟨p1, _, m, rfl, upd_same, by rw [ea, List.length_take] at lm; omega, fun out p2 o1 o2 o3 h2 => ⟨p2, _, rfl, .inl ⟨SqL.of upd_same, fun t ht =>
          k out t _ ⟨o1, fun u => by rw [o2 u]; exact decide_eq_true_iff⟩ (by rw [ea, List.length_take] at lm; omega) (((S.trans (same_new h1)).trans (same_new h2)).trans (same_new ht)) upd_same⟩⟩⟩⟩
end

/-! ### the law's own word on who may be named, moment by moment back -/
theorem heads_get {ns : List Int} {m g k : Nat} (kg : k ≤ g) : (headsI ns m g)[k]? = some (ns.getD (m - k) 0) := by
  unfold headsI
  rw [List.getElem?_map, List.getElem?_range (by omega)]
  rfl
theorem heads_len {ns : List Int} {m g : Nat} : (headsI ns m g).length = g + 1 := by unfold headsI; rw [List.length_map, List.length_range]
def sp_lnames (K : PySem.W.Frag) : Sp := fun vs H Q _ => ∃ (th a : Addr) (z r s : Int) (g m : Nat) (ns : List Int), vs = [.ref th, .ref a, .int (m : Int), .int s] ∧ SqT K H th [.int z, .int r, .int (g : Int)] ∧ SqT K H a (ns.map V.int) ∧ g ≤ m ∧ m < ns.length ∧ ns.length ≤ 4000 ∧ g < 50 ∧
  ∀ (out : List Int) (t : Addr) (J : Hp), Sorted out (ahead s (headsI ns m g)) → out.length < 60 → Same H J → J t = some (.tup (out.map V.int)) → Q (.ref t) J
section
variable {P : Program} {w : World} {K : PySem.W.Frag} {mg : Str → Option Value} {base : Heap}
theorem ok_lnames (T : Txt K mg) : FnOk P w K mg base CX0 1 T.a_names T.d_names ["_law_house_here", "_law_course_here", "_law_moment", "_law_server"] (sp_lnames K) := by
  refine T.F_names.ok sc_names (fun vs H Q E h => ?_) (fun cdv A outer st H vs Q E hr h => ?_)
  · obtain ⟨th, a, z, r, s, g, m, ns, rfl, _⟩ := h
    rfl
  · obtain ⟨th, a, z, r, s, g, m, ns, rfl, hth, hx, gm, ml, hl, g50, k⟩ := h
    refine ⟨_, (pss_cons (ps_par (i := 4) (j := 5) (by rfl) sc_names.nd rfl rfl (by decide) rfl rfl (pa_cons (pe_lst pa_nil) (pa_cons (pv 2) pa_nil)) (by rfl))
      (pss_cons (ps_while PassesOwn.never (PW.pt (pw_and (pt_cmpR op_ge (pv 5) (pe_op op_sub (pv 2) (pe_ix ix_tup (pv 0) pe_int (fun _ _ => rfl))) (nomark _)) (pw_and1 (pt_cmpR op_ne (pe_ix ix_tup (pv 1) (pv 5) (fun _ _ => rfl)) (pv 3) (nomark _)))))
        (pss_cons (ps_expr (pe_bm PySem.F.plainAttrs_list PySem.F.slot_list_append PySem.F.type_list_append mt_append (pv 4) (pa_cons (pe_ix ix_tup (pv 1) (pv 5) (fun _ _ => rfl)) pa_nil)))
      (pss_one (ps_set (i := 5) sc_names.nd rfl (Or.inl rfl) (pe_op op_sub (pv 5) pe_int)))))
      (pss_one (ps_ret (pe_callTy (T := "tuple") call_tuple_of (by rfl) T.m_tuple (by decide +kernel) (pa_cons (pe_callB (id := "sorted") (cr_sortedSet rfl) (by rfl) T.m_sorted (by decide +kernel) (pa_cons (pe_callTy (T := "set") (cr_setN rfl) (by rfl) T.m_set (by decide +kernel) (pa_cons (pv 4) pa_nil)) pa_nil)) pa_nil)))))), ?_⟩
    refine ⟨Nat.zero_le _, fun F hF => ⟨_, rfl, _, _, rfl, ?_⟩⟩
    let inv : Nat → L2.St → Hp → Prop := fun n σ J => ∃ i : Nat, n + i = g + 1 ∧ σ = [some (.ref th), some (.ref a), some (.int (m : Int)), some (.int s), some (.ref F), some (.int ((m : Int) - (i : Int)))] ∧ (∀ x ∈ (headsI ns m g).take i, x ≠ s) ∧ J F = some (.lst (((headsI ns m g).take i).map V.int)) ∧ Same H J
    refine ⟨inv, ⟨g + 1, 0, by omega, by rw [show (m : Int) - ((0 : Nat) : Int) = (m : Int) by omega]; rfl, fun x hx => absurd hx (by simp), by rw [upd_same]; rfl, same_new hF⟩, ?_⟩
    rintro n σ J ⟨i, hn, rfl, hne, hJ, S⟩
    have fin : (ahead s (headsI ns m g)) = (headsI ns m g).take i → J F = some (.lst ((ahead s (headsI ns m g)).map V.int)) := fun e => by rw [e]; exact hJ
    have la : ∀ l : List Int, (ahead s l).length ≤ l.length := fun l => by
      induction l with
      | nil => exact Nat.le_refl _
      | cons x r ih => simp only [ahead]; split <;> simp <;> omega
    have al : (ahead s (headsI ns m g)).length < 60 := by have := la (headsI ns m g); rw [heads_len] at this; omega
    refine ⟨_, rfl, _, rfl, _, rfl, th, _, 2, _, rfl, rfl, sameT S hth, rfl, _, _, rfl, rfl, _, _, rfl, rfl, _, rfl, ?_⟩
    by_cases ig : i ≤ g
    · rw [decide_eq_true (show (m : Int) - (g : Int) ≤ (m : Int) - (i : Int) by omega)]
      refine iteT ?_
      have hix : ns[m - i]? = some ns[m - i] := List.getElem?_eq_getElem (by omega)
      refine ⟨_, rfl, _, rfl, a, _, _, _, rfl, rfl, sameT S hx, (show atI (ns.map V.int) ((m : Int) - (i : Int)) = _ by rw [show ((m : Int) - (i : Int)) = ((m - i : Nat) : Int) by omega]; exact int_nat hix), ?_⟩
      refine ⟨_, rfl, rfl, _, rfl, ?_⟩
      have hg : (headsI ns m g)[i]? = some ns[m - i] := by rw [heads_get ig, List.getD_eq_getElem?_getD, hix]; rfl
      by_cases es : ns[m - i] = s
      · rw [decide_eq_true (show V.int ns[m - i] = V.int s by rw [es])]
        refine iteF ?_
        have ea := ahead_take hne (by rw [hg, es])
        exact ⟨_, rfl, F, ahead s (headsI ns m g), rfl, .inl (SqL.of (by rw [ea]; exact hJ)), by omega, fun p1 c lm h1 => ⟨p1, _, c, rfl, upd_same, by omega, fun out p2 o1 o2 o3 h2 => ⟨p2, _, rfl, .inl ⟨SqL.of upd_same, fun t ht =>
            k out t _ ⟨o1, fun u => by rw [o2 u]; exact decide_eq_true_iff⟩ (by omega) (((S.trans (same_new h1)).trans (same_new h2)).trans (same_new ht)) upd_same⟩⟩⟩⟩
      · rw [decide_eq_false fun e => es (V.int.inj e)]
        refine iteT ?_
        refine ⟨fun σ' J' => inv (g - i) σ' J', fun σ' J' h => ⟨g - i, by omega, h⟩, ?_⟩
        refine ⟨_, rfl, .inl ⟨rfl, _, SqL.of hJ⟩, _, rfl, _, rfl, a, _, _, _, rfl, rfl, sameT S hx, (show atI (ns.map V.int) ((m : Int) - (i : Int)) = _ by rw [show ((m : Int) - (i : Int)) = ((m - i : Nat) : Int) by omega]; exact int_nat hix), F, _, _, rfl, rfl, hJ, small1000 (by rw [List.length_map, List.length_take]; omega), ?_⟩
        refine ⟨_, rfl, _, _, rfl, rfl, i + 1, by omega, ?_, fun x hx' => ?_, ?_, write_same S hF⟩
        · rw [show (m : Int) - ((i + 1 : Nat) : Int) = (m : Int) - (i : Int) - 1 by omega]
          rfl
        · rw [List.take_add_one, hg] at hx'
          rcases List.mem_append.mp hx' with z | z
          · exact hne x z
          · rw [Option.toList_some, List.mem_singleton] at z
            rw [z]
            exact es
        · rw [upd_same, List.take_add_one, hg, List.map_append]
          rfl
    · rw [decide_eq_false (show ¬ (m : Int) - (g : Int) ≤ (m : Int) - (i : Int) by omega)]
      refine iteF (iteF ?_)
      have ea : ahead s (headsI ns m g) = (headsI ns m g).take i := by
        rw [List.take_of_length_le (by rw [heads_len]; omega)] at hne ⊢
        exact ahead_all hne
      exact ⟨_, rfl, F, ahead s (headsI ns m g), rfl, .inl (SqL.of (by rw [ea]; exact hJ)), by omega, fun p1 c lm h1 => ⟨p1, _, c, rfl, upd_same, by omega, fun out p2 o1 o2 o3 h2 => ⟨p2, _, rfl, .inl ⟨SqL.of upd_same, fun t ht =>
          k out t _ ⟨o1, fun u => by rw [o2 u]; exact decide_eq_true_iff⟩ (by omega) (((S.trans (same_new h1)).trans (same_new h2)).trans (same_new ht)) upd_same⟩⟩⟩⟩
end

/-! ### kinds of values, by the data -/
def wholeD (lo hi : Int) : PyData → Bool
  | .int i => decide (lo ≤ i) && decide (i ≤ hi)
  | _ => false
theorem whole_int {lo hi : Int} {d : PyData} (h : wholeD lo hi d = true) : ∃ i, d = .int i ∧ lo ≤ i ∧ i ≤ hi := by
  cases d <;> first | (exact ⟨_, rfl, by simpa [wholeD] using h⟩) | (exfalso; revert h; simp [wholeD])
theorem isA_whole {lo hi : Int} {d : PyData} (h : (isA "bool" d || !isA "int" d) = true) : wholeD lo hi d = false := by
  cases d <;> first | rfl | (exfalso; revert h; simp [isA, isS, kindD])
def sp_whole (K : PySem.W.Frag) : Sp := fun vs H Q _ => ∃ (v : V) (d : PyData) (lo hi : Int), vs = [v, .int lo, .int hi] ∧ Dp K H v d ∧ Q (.bl (wholeD lo hi d)) H
theorem isA_int_of {d : PyData} (h1 : ¬ isA "bool" d = true) (h2 : ¬ (!isA "int" d) = true) : ∃ i, d = .int i := by
  cases d <;> first | exact ⟨_, rfl⟩ | (exfalso; revert h1 h2; simp [isA, isS, kindD])
section
variable {P : Program} {w : World} {K : PySem.W.Frag} {mg : Str → Option Value} {base : Heap}
theorem ok_whole (T : Txt K mg) : FnOk P w K mg base CX0 1 T.a_whole T.d_whole ["value", "low", "high"] (sp_whole K) := by
  refine T.F_whole.ok sc_whole (fun vs H Q E h => ?_) (fun cdv A outer s H vs Q E hr h => ?_)
  · obtain ⟨v, d, lo, hi, rfl, _⟩ := h
    rfl
  · obtain ⟨v, d, lo, hi, rfl, hd, k⟩ := h
    refine ⟨_, (pss_cons (ps_if (PW.pt (pw_or (pt_val (pe_callB (id := "isinstance") (call_isD "bool" (by decide)) (by rfl) T.m_isinstance (by decide +kernel) (pa_cons (pv 0) (pa_cons (pe_bltn (v := .ty "bool") (by rfl) T.m_bool (by decide +kernel) rfl) pa_nil)))) (pw_or1 (pt_not (pt_val (pe_callB (id := "isinstance") (call_isD "int" (by decide)) (by rfl) T.m_isinstance (by decide +kernel) (pa_cons (pv 0) (pa_cons (pe_bltn (v := .ty "int") (by rfl) T.m_int (by decide +kernel) rfl) pa_nil))))))))
        (pss_one (ps_ret pe_bl))
        pss_nil)
      (pss_one (ps_ret (pe_chain op_le op_le (pv 1) (pv 0) (pv 2))))), ?_⟩
    refine ⟨_, rfl, v, d, rfl, hd, _, rfl, ite2 (fun hb => ?_) (fun hb => ?_)⟩
    · rw [isA_whole (by rw [hb]; rfl)] at k
      exact iteT k
    · refine ⟨_, rfl, v, d, rfl, hd, _, rfl, ite2 (fun hi' => ?_) (fun hi' => ?_)⟩
      · rw [isA_whole (by rw [hi', Bool.or_true])] at k
        exact k
      · obtain ⟨i, rfl⟩ := isA_int_of hb hi'
        cases hd
        refine ⟨_, rfl, _, rfl, lo, i, rfl, rfl, _, rfl, ?_⟩
        by_cases hl : lo ≤ i
        · rw [decide_eq_true hl]
          refine iteT ⟨_, rfl, i, hi, rfl, rfl, ?_⟩
          have e : wholeD lo hi (.int i) = decide (i ≤ hi) := by simp only [wholeD, decide_eq_true hl, Bool.true_and]
          rw [e] at k
          exact k
        · rw [decide_eq_false hl]
          refine iteF ?_
          have e : wholeD lo hi (.int i) = false := by simp only [wholeD, decide_eq_false hl, Bool.false_and]
          rw [e] at k
          exact k
end

/-! ### what is a course -/
def intD : PyData → Int
  | .int i => i
  | _ => 0
def courseD (z r : Int) : PyData → Bool
  | .tuple ds => !ds.isEmpty && ds.all (wholeD 0 (z - 1)) && keptB (ds.map intD) r
  | _ => false
theorem all_whole {K : PySem.W.Frag} {H : Hp} {lo hi : Int} : ∀ {vs : List V} {ds : List PyData}, DpAll K H vs ds → ds.all (wholeD lo hi) = true → vs = (ds.map intD).map V.int
  | _, _, .nil, _ => rfl
  | _, _, .cons a b, h => by
    rw [List.all_cons, Bool.and_eq_true] at h
    obtain ⟨i, rfl, _⟩ := whole_int h.1
    cases a
    rw [all_whole b h.2]
    rfl
def sp_iscourse (K : PySem.W.Frag) (tb : Addr) : Sp := fun vs H Q _ => ∃ (th : Addr) (v : V) (z r g : Int) (d : PyData), vs = [.ref th, v] ∧ SqT K H th [.int z, .int r, .int g] ∧ Dp K H v d ∧ (∀ ds, d = .tuple ds → ds.length ≤ 4000) ∧ GxR.TabG H tb ∧
  ∀ J, Grow H J → Q (.bl (courseD z r d)) J
section
variable {P : Program} {w : World} {K : PySem.W.Frag} {mg : Str → Option Value} {base : Heap}
theorem ok_iscourse (T : Txt K mg) (TB : GxR.TabB base mg T.c_changes_of T.p_changes_of) : FnOk P w K mg base CX0 3 T.a_is_course T.d_is_course ["house", "value"] (sp_iscourse K T.p_changes_of) := by
  have G_whole : FnOk P w K mg base CX0 1 T.a_whole T.d_whole ["value", "low", "high"] (sp_whole K) := ok_whole T
  have G_changes_of : FnOk P w K mg base CX0 2 T.a_changes_of T.d_changes_of ["course"] (sp_changes K T.p_changes_of) := ok_changes T TB
  refine T.F_is_course.ok sc_is_course (fun vs H Q E h => ?_) (fun cdv A outer s H vs Q E hr h => ?_)
  · obtain ⟨th, v, z, r, g, d, rfl, _⟩ := h
    rfl
  · obtain ⟨th, v, z, r, g, d, rfl, hth, hd, hl, hT, k⟩ := h
    refine ⟨_, (pss_cons (ps_asg (pv 0) (pg_tup (by rfl) (pgs_cons (pg_name (i := 2) sc_is_course.nd rfl (Or.inr rfl)) (pgs_cons (pg_name (i := 3) sc_is_course.nd rfl (Or.inr rfl)) (pgs_cons (pg_name (i := 4) sc_is_course.nd rfl (Or.inl rfl)) pgs_nil)))))
      (pss_cons (ps_if (PW.pt (pw_or (pt_not (pt_val (pe_callB (id := "isinstance") (call_isD "tuple" (by decide)) (by rfl) T.m_isinstance (by decide +kernel) (pa_cons (pv 1) (pa_cons (pe_bltn (v := .ty "tuple") (by rfl) T.m_tuple (by decide +kernel) rfl) pa_nil))))) (pw_or1 (pt_cmpR op_eq (pe_callB (id := "len") call_len_seq (by rfl) T.m_len (by decide +kernel) (pa_cons (pv 1) pa_nil)) pe_int (nomark _)))))
        (pss_one (ps_ret pe_bl))
        pss_nil)
      (pss_cons (ps_if (pt_not (pt_val (pe_callB (id := "all") (cr_all rfl) (by rfl) T.m_all (by decide +kernel) (pa_cons (pe_lc (own := [("head", 5)]) (g := gName 5) (by rfl) sc_is_course.nd (pi_tup (pv 1)) (blkOk_by (own := [("head", 5)]) (N := ["house", "value", "servers", "rest", "_", "head", "changes", "soon", "late"]) (sc := defScope s_is_course) (by decide +kernel)) (fun _ _ _ _ _ => (pg_name (i := 5) sc_is_course.nd rfl (Or.inl rfl))) (fun _ _ _ _ _ => pts_nil) (fun _ _ _ _ _ => (pe_call G_whole (hr.mono (by omega)) (by rfl) T.g_whole T.F_whole.kp T.b_whole .nil pass0 (pa_cons (pv 5) (pa_cons pe_int (pa_cons (pe_op op_sub (pv 2) pe_int) pa_nil)))))) pa_nil))))
        (pss_one (ps_ret pe_bl))
        pss_nil)
      (pss_cons (ps_set (i := 6) sc_is_course.nd rfl (Or.inl rfl) (pe_call G_changes_of (hr.mono (by omega)) (by rfl) T.g_changes_of T.F_changes_of.kp T.b_changes_of .nil pass0 (pa_cons (pv 1) pa_nil)))
      (pss_one (ps_ret (pe_callB (id := "all") (cr_all rfl) (by rfl) T.m_all (by decide +kernel) (pa_cons (pe_lc (own := [("soon", 7), ("late", 8)]) (g := gTup K 2 (gCons (gName 7) (gCons (gName 8) gNil))) (by rfl) sc_is_course.nd (RZ.pi_zipA (by rfl) T.m_zip (pa_cons (pv 6) (pa_cons (pe_slice sl_tupS (pv 6) (po_some pe_int) po_none) pa_nil))) (blkOk_by (own := [("soon", 7), ("late", 8)]) (N := ["house", "value", "servers", "rest", "_", "head", "changes", "soon", "late"]) (sc := defScope s_is_course) (by decide +kernel)) (fun _ _ _ _ _ => (pg_pairK K (i := 7) (j := 8) rfl rfl sc_is_course.nd rfl (Or.inl rfl) rfl (Or.inl rfl))) (fun _ _ _ _ _ => pts_nil) (fun _ _ _ _ _ => (pe_cmpR op_ge (pe_op op_sub (pv 8) (pv 7)) (pv 3) (nomark _)))) pa_nil)))))))), ?_⟩
    refine ⟨_, rfl, th, _, rfl, hth, rfl, _, _, rfl, _, _, rfl, _, _, rfl, rfl, ?_⟩
    refine ⟨_, rfl, v, d, rfl, hd, _, rfl, ?_⟩
    cases ht : isA "tuple" d with
    | false =>
      have e : courseD z r d = false := by cases d <;> first | rfl | (exfalso; revert ht; simp [isA, isS, kindD])
      rw [e] at k
      exact iteT (iteT (k H (Grow.refl H)))
    | true =>
    obtain ⟨ds, rfl⟩ := isA_tup ht
    have hl := hl ds rfl
    cases hd with
    | tup h1 h2 =>
    rename_i t xs
    have hle := dpAll_len h2
    refine iteF ⟨_, rfl, t, xs, rfl, .inr h1, rfl, _, rfl, ?_⟩
    cases hE : ds.isEmpty with
    | true =>
      have e : courseD z r (.tuple ds) = false := by simp only [courseD, hE, Bool.not_true, Bool.false_and]
      rw [e] at k
      have z0 : xs.length = 0 := by rw [hle, List.isEmpty_iff.mp hE]; rfl
      rw [decide_eq_true (show V.int (xs.length : Int) = V.int 0 by rw [z0]; rfl)]
      exact iteT (k H (Grow.refl H))
    | false =>
    have z0 : ds.length ≠ 0 := fun e => by
      rw [List.eq_nil_of_length_eq_zero e] at hE
      cases hE
    rw [decide_eq_false (show ¬ V.int (xs.length : Int) = V.int 0 by intro q; have := V.int.inj q; omega)]
    refine iteF ⟨_, rfl, t, rfl, ⟨_, h1⟩, fun D hD => ?_⟩
    refine lc_tup (K := K) (a := t) (xs := xs) (fun i J => J = upd H D (.lst (((ds.take i).map (wholeD 0 (z - 1))).map V.bl))) rfl (fun i J _ e => by rw [e]; exact sameT (same_new hD) h1) ?_ ?_
    · rintro i x J hx rfl
      obtain ⟨e, he, xd⟩ := dpAll_get h2 hx
      have hS := same_new (o := .lst (((ds.take i).map (wholeD 0 (z - 1))).map V.bl)) hD
      refine ⟨rfl, ?_⟩
      unfold tYes
      refine iteT ?_
      refine ⟨_, rfl, _, rfl, _, _, rfl, rfl, x, e, 0, z - 1, rfl, dpSame hS _ _ xd, ?_⟩
      refine ⟨_, upd_same, small1000' (by simp only [List.length_map, List.length_take]; omega), ?_⟩
      rw [upd_upd, List.take_add_one, he]
      simp only [List.map_append, Option.toList_some, List.map_cons, List.map_nil]
    · rintro J rfl
      have s1 := same_new (o := .lst (((ds.take xs.length).map (wholeD 0 (z - 1))).map V.bl)) hD
      refine ⟨D, (ds.take xs.length).map (wholeD 0 (z - 1)), rfl, SqL.of upd_same, ?_⟩
      rw [hle, List.take_of_length_le (Nat.le_refl _)] at *
      have ea : (ds.map (wholeD 0 (z - 1))).all id = ds.all (wholeD 0 (z - 1)) := by rw [List.all_map]; rfl
      rw [ea]
      refine ⟨_, rfl, ?_⟩
      cases eb : ds.all (wholeD 0 (z - 1)) with
      | false =>
        have e : courseD z r (.tuple ds) = false := by simp only [courseD, eb, Bool.and_false, Bool.false_and]
        rw [e] at k
        exact iteT (k _ (Grow.of_same s1))
      | true =>
      have e : courseD z r (.tuple ds) = keptB (ds.map intD) r := by simp only [courseD, eb, hE, Bool.not_false, Bool.true_and]
      rw [e] at k
      have ex := all_whole h2 eb
      have h9 : SqT K H t ((ds.map intD).map V.int) := by rw [← ex]; exact h1
      have ln : (ds.map intD).length = ds.length := List.length_map ..
      generalize ds.map intD = ns at *
      refine iteF ⟨_, rfl, t, ns, rfl, sameT s1 h9, Nat.le_trans (by omega : ns.length ≤ 4000) (by decide), (Grow.of_same s1).t.tab hT, fun t2 J2 G2 hJ2 => ?_⟩
      have e2 : keptB ns r = gapsB r (changesI ns) := rfl
      have cl : (changesI ns).length ≤ ns.length := Nat.le_trans (chg_len ns (ns.length - 1)) (by omega)
      rw [e2] at k
      have e1 : cutV ((changesI ns).map V.int) (some 1) none = ((changesI ns).drop 1).map V.int := by rw [cut_one, List.map_drop]
      generalize changesI ns = cs at *
      refine ⟨_, rfl, _, rfl, 1, rfl, t2, _, rfl, SqT.of hJ2, fun c J3 hc S3 => ?_⟩
      rw [e1] at hc
      refine ⟨t2, c, cs.map V.int, (cs.drop 1).map V.int, rfl, .inr ⟨SqT.of (S3 _ _ hJ2), hc, fun D2 hD2 => ?_⟩⟩
      let f : Int × Int → Bool := fun p => decide (r ≤ p.2 - p.1)
      have zl : (cs.zip (cs.drop 1)).length = min (cs.map V.int).length ((cs.drop 1).map V.int).length := by rw [List.length_zip, List.length_map, List.length_map]
      refine lc_it (walk_zipT zl) (fun i J => Same J3 J ∧ J D2 = some (.lst ((((cs.zip (cs.drop 1)).take i).map f).map V.bl))) ⟨same_new hD2, upd_same⟩
        (fun i J _ ⟨S, _⟩ => ⟨SqT.of (S _ _ (S3 _ _ hJ2)), sameT S hc⟩) ?_ ?_
      · rintro i v J J' hi ⟨S, hDn⟩ ⟨Tp, x', y', rfl, hTp, rfl, hx', hy'⟩
        have ei : (cs.zip (cs.drop 1))[i]? = some ((cs.zip (cs.drop 1))[i]) := List.getElem?_eq_getElem hi
        generalize (cs.zip (cs.drop 1))[i] = pr at ei
        obtain ⟨u, y⟩ := pr
        have ez := List.getElem?_zip_eq_some.mp ei
        have hx' : (cs.map V.int)[i]? = some x' := hx'
        have hy' : ((cs.drop 1).map V.int)[i]? = some y' := hy'
        rw [List.getElem?_map, ez.1] at hx'
        rw [List.getElem?_map, ez.2] at hy'
        cases hx'
        cases hy'
        have TD : Tp ≠ D2 := (ne_of_none hDn hTp).symm
        have S' : Same J3 (upd J Tp (.tup [.int u, .int y])) := S.trans (same_new hTp)
        refine ⟨Tp, _, rfl, SqT.of upd_same, rfl, _, _, rfl, _, _, rfl, rfl, rfl, ?_⟩
        unfold tYes
        refine iteT ⟨_, rfl, _, rfl, _, _, rfl, rfl, _, rfl, _, _, rfl, rfl, ?_⟩
        refine ⟨_, by rw [upd_ne TD.symm]; exact hDn, small1000' ?_, fun b o hb => ?_, ?_⟩
        · rw [zl, List.length_map] at hi
          simp only [List.length_map, List.length_take]
          omega
        · rw [upd_ne (ne_of_none hb hD2)]
          exact S' b o hb
        · rw [upd_same, List.take_add_one, ei]
          simp only [List.map_append, Option.toList_some, List.map_cons, List.map_nil]
          rfl
      · rintro J ⟨S, hDn⟩
        rw [List.take_of_length_le (Nat.le_refl _)] at hDn
        refine ⟨D2, _, rfl, SqL.of hDn, ?_⟩
        have e3 : (((cs.zip (cs.drop 1)).map f).all id) = gapsB r cs := by
          rw [List.all_map]
          unfold gapsB
          refine List.all_congr rfl (fun p => ?_)
          show decide (r ≤ p.2 - p.1) = !decide (p.2 - p.1 < r)
          by_cases q : r ≤ p.2 - p.1
          · rw [decide_eq_true q, decide_eq_false (by omega)]
            rfl
          · rw [decide_eq_false q, decide_eq_true (by omega)]
            rfl
        rw [e3]
        exact k _ (((Grow.of_same s1).trans G2).trans (Grow.of_same (S3.trans S)))
end

/-! ### what every law's own def needs -/
theorem room_law (e : Env) : Room 50 (callerA.deeper e) := (show Room 51 callerA from ⟨rfl, by decide, by decide⟩).deeper e
theorem show_bool (b : Bool) : PyData.showable (.bool b) = true ∧ PyData.depth (.bool b) ≤ 50 ∧ (PyData.shown (.bool b)).length ≤ sizeLine := by
  refine ⟨by simp only [PyData.showable], by simp only [PyData.depth]; decide, ?_⟩
  cases b <;> simp only [PyData.shown] <;> exact Nat.le_trans (by decide : _ ≤ 5) (by decide)
theorem pow_pos_int {s : Int} (h : 0 < s) : ∀ n : Nat, 0 < s ^ n
  | 0 => by rw [Int.pow_zero]; decide
  | n + 1 => by rw [Int.pow_succ]; exact Int.mul_pos (pow_pos_int h n) h
theorem nice_int {e : Nat} {i : Int} (he : 10 ≤ e) (h : i.natAbs ≤ 1000) : nice e (.int i) = true := by
  have p : 2 ^ 10 ≤ 2 ^ e := Nat.pow_le_pow_right (by decide) he
  simp only [nice, decide_eq_true_eq]
  omega
theorem nice_three {e : Nat} {x y z : Int} (he : 10 ≤ e) (hx : x.natAbs ≤ 1000) (hy : y.natAbs ≤ 1000) (hz : z.natAbs ≤ 1000) : nice e (.tuple [.int x, .int y, .int z]) = true := by
  simp only [nice, niceAll, Bool.and_eq_true]
  exact ⟨by simpa only [nice] using nice_int he hx, by simpa only [nice] using nice_int he hy, by simpa only [nice] using nice_int he hz, trivial⟩
theorem tiny_three {x y z : Int} (hx : x.natAbs ≤ 1000) (hy : y.natAbs ≤ 1000) (hz : z.natAbs ≤ 1000) : Tiny 140 4 1 (.tuple [.int x, .int y, .int z]) :=
  ⟨nice_three (by decide) hx hy hz, by simp [wt, wtAll], by simp [PyData.depth, PyData.depthAll]⟩
theorem tiny_int {x : Int} (hx : x.natAbs ≤ 1000) : Tiny 140 1 0 (.int x) := ⟨nice_int (by decide) hx, by simp [wt], by simp [PyData.depth]⟩
theorem ne_self (x : V) : (!decide (x = x)) = false := by
  rw [decide_eq_true rfl]
  rfl

/-! ### more of small data, and of what is kept -/
theorem Deck.sqt {K : PySem.W.Frag} {H J : Hp} {p a : Addr} {n : Nat} {xs : List V} (D : Deck K H p n) (k : Keep p H J) (h : SqT K H a xs) : SqT K J a xs := by
  obtain ⟨_, _, _, _, hp, _⟩ := D
  exact sameT off_in (sameT k.s (tup_off hp h))
theorem Acc.tupI {K : PySem.W.Frag} {p t : Addr} {n : Nat} {vs : List V} {ds : List PyData} {H0 J : Hp} {xs : List V} {ms : List Int} (A : Acc K p n H0 J vs ds) (c : SqT K J t xs) (e : xs = ms.map V.int) : Acc K p n H0 J (vs ++ [.ref t]) (ds ++ [.tuple (ms.map PyData.int)]) := by
  subst e
  exact A.add (dt_of A.dk c (ints_dp ms))
theorem tiny_ints {ms : List Int} {L : Nat} (h : ∀ x ∈ ms, x.natAbs ≤ 1000) (hl : ms.length < L) : Tiny 143 L 20 (.tuple (ms.map PyData.int)) ∧ Tiny 143 L 20 (.list (ms.map PyData.int)) := by
  have w : wtAll (ms.map PyData.int) = ms.length := by
    clear h hl
    induction ms with
    | nil => rfl
    | cons x r ih => simp only [List.map_cons, wtAll, wt, ih, List.length_cons]; omega
  have q := tiny_tup (e := 143) (W := L) (m := 0) (ds := ms.map PyData.int) (fun d hd => by
    obtain ⟨x, hx, rfl⟩ := List.mem_map.mp hd
    exact ⟨nice_int (by decide) (h x hx), by simp [PyData.depth]⟩) (by rw [w]; exact hl)
  exact ⟨q.1.mono (Nat.le_refl _) (Nat.le_refl _) (by decide), q.2.mono (Nat.le_refl _) (Nat.le_refl _) (by decide)⟩
theorem tiny_pair {z r g : Int} {d : PyData} (hz : z.natAbs ≤ 1000) (hr : r.natAbs ≤ 1000) (hg : g.natAbs ≤ 1000) (t : Tiny 143 4000 20 d) : Tiny 143 4100 21 (.list [.tuple [.int z, .int r, .int g], d]) := by
  have t3 := tiny_three hz hr hg
  have a := t3.we
  have b := t.we
  have c := t3.de
  have e := t.de
  refine ⟨?_, by simp only [wt, wtAll] at *; omega, by simp only [PyData.depth, PyData.depthAll] at *; omega⟩
  simp only [nice, niceAll, Bool.and_true, Bool.and_eq_true]
  exact ⟨by simpa only [nice, niceAll, Bool.and_true, Bool.and_eq_true] using nice_three (e := 143) (by decide) hz hr hg, t.ni⟩
theorem len_tiny {d : PyData} (t : Tiny 143 4000 20 d) : ∀ ds, d = .tuple ds → ds.length ≤ 4000 := fun ds e => by
  have a := t.we
  rw [e] at a
  simp only [wt] at a
  have := wtAll_len ds
  omega
theorem tiny_bools (bs : List Bool) (hl : bs.length < 4000) : Tiny 143 4000 20 (.tuple (bs.map PyData.bool)) := by
  have w : wtAll (bs.map PyData.bool) = bs.length := by
    clear hl
    induction bs with
    | nil => rfl
    | cons x r ih => simp only [List.map_cons, wtAll, wt, ih, List.length_cons]; omega
  have q := tiny_tup (e := 143) (W := 4000) (m := 0) (ds := bs.map PyData.bool) (fun d hd => by
    obtain ⟨x, hx, rfl⟩ := List.mem_map.mp hd
    exact ⟨by simp [nice], by simp [PyData.depth]⟩) (by rw [w]; exact hl)
  exact q.1.mono (Nat.le_refl _) (Nat.le_refl _) (by decide)
theorem Deck.of_grow {K : PySem.W.Frag} {H J : Hp} {p : Addr} {n : Nat} (D : Deck K H p n) (e : Grow H J) : Deck K J p n := by
  obtain ⟨l, ns, c, r, hp, lp, hl, z⟩ := D
  exact ⟨l, ns, c, r, e.at hp, lp, e.seq hl, z⟩
theorem sqT_upd {K : PySem.W.Frag} {J : Hp} {q L : Addr} {xs ys : List V} {o : HO} (h : SqT K J q xs) (hl : J L = some (.lst ys)) : SqT K (upd J L o) q xs := by
  rcases h with (h | ⟨u, h⟩) | h
  · exact Or.inl (Or.inl (by rw [upd_ne (ne_of h hl (by intro z; cases z))]; exact h))
  · exact Or.inl (Or.inr ⟨u, by rw [upd_ne (ne_of h hl (by intro z; cases z))]; exact h⟩)
  · exact Or.inr h
theorem bools_dp {K : PySem.W.Frag} {H : Hp} : ∀ bs : List Bool, DpAll K H (bs.map V.bl) (bs.map PyData.bool)
  | [] => .nil
  | b :: bs => .cons (.bl b) (bools_dp bs)
def isOne (x : Int) : Bool := decide (V.int x = V.int 1)
theorem cut_last {xs : List V} {v : V} (h : xs.getLast? = some v) : cutV xs (some (-1)) none = [v] := by
  have h0 : 0 < xs.length := by
    cases xs with
    | nil => cases h
    | cons _ _ => simp
  have e : HT.sIx xs.length 0 (some (-1)) = xs.length - 1 := by
    show (if (-1 : Int) < 0 then ((-1 : Int) + (xs.length : Int)).toNat else min (-1 : Int).toNat xs.length) = xs.length - 1
    rw [if_pos (by decide)]
    omega
  unfold cutV
  rw [e, HT.sIx_none, show xs.length - (xs.length - 1) = 1 by omega]
  rw [List.getLast?_eq_getElem?] at h
  obtain ⟨hl, hv⟩ := List.getElem?_eq_some_iff.mp h
  rw [← List.getElem_cons_drop hl, hv]
  rfl

/-! ### one of the items of a tuple -/
def sp_oneT (K : PySem.W.Frag) : Sp := fun vs H Q _ => ∃ (p a : Addr) (xs : List V) (n : Nat), vs = [.ref p, .ref a] ∧ SqT K H a xs ∧ 0 < xs.length ∧ xs.length < 100000 ∧ Deck K H p n ∧ n < 1000000 ∧
  ∀ (i : Nat) (x : V) (J : Hp), xs[i]? = some x → Deck K J p (n + 1) → Keep p H J → Q x J
section
variable {P : Program} {w : World} {K : PySem.W.Frag} {mg : Str → Option Value} {base : Heap}
theorem ok_oneT (T : Txt K mg) : FnOk P w K mg base CX0 2 T.a_one T.d_one ["_law_deck_here", "_law_items"] (sp_oneT K) := by
  have G_draw : FnOk P w K mg base CX0 1 T.a_draw T.d_draw ["_law_deck_here", "_law_many"] (sp_draw K) := ok_draw T
  refine T.F_one.ok sc_one (fun vs H Q E h => ?_) (fun cdv A outer s H vs Q E hr h => ?_)
  · obtain ⟨p, a, xs, n, rfl, _⟩ := h
    rfl
  · obtain ⟨p, a, xs, n, rfl, hx, x0, x1, D, hn, k⟩ := h
    refine ⟨_, (pss_one (ps_ret (pe_ix ix_seq (pv 1) (pe_call G_draw (hr.mono (by omega)) (by rfl) T.g_draw T.F_draw.kp T.b_draw .nil pass0 (pa_cons (pv 0) (pa_cons (pe_callB (id := "len") call_len_seq (by rfl) T.m_len (by decide +kernel) (pa_cons (pv 1) pa_nil)) pa_nil))) (fun _ _ => rfl)))), ?_⟩
    refine ⟨_, rfl, _, rfl, _, rfl, a, xs, rfl, .inr hx, p, (xs.length : Int), n, rfl, by omega, by omega, D, hn, fun r J r0 r1 DJ KJ => ?_⟩
    obtain ⟨i, rfl⟩ : ∃ i : Nat, r = (i : Int) := ⟨r.toNat, (Int.toNat_of_nonneg r0).symm⟩
    have hi : i < xs.length := by omega
    refine rIx_of (.inr (D.sqt KJ hx)) (atI_nat (List.getElem?_eq_getElem hi)) ?_
    exact k i _ J (List.getElem?_eq_getElem hi) DJ KJ
end

/-! ### pairs as data -/
theorem ints_lay1 (ns : List Int) : PyData.canLay0 (.tuple (ns.map PyData.int)) = true := by simp only [PyData.canLay0, ints_lay]
theorem ints_shapedT (ns : List Int) : SeqAt.shaped (.tuple (ns.map PyData.int)) = true := by
  unfold SeqAt.shaped
  simp only [PyData.canLay0, PyData.depth, ints_lay, ints_deep, Bool.true_and, decide_eq_true_eq]
  decide
def pairD (q : Int × Int) : PyData := .tuple [.int q.1, .int q.2]
def PairAt (J : Hp) (p F : Addr) (v : V) (q : Int × Int) : Prop := ∃ b : Addr, v = .ref b ∧ b ≠ p ∧ b ≠ F ∧ J b = some (.tup [.int q.1, .int q.2])
theorem pairs_dp {K : PySem.W.Frag} {H : Hp} {p F : Addr} : ∀ {vs : List V} {ps : List (Int × Int)}, Paired (PairAt H p F) vs ps → DpAll K (off p H) vs (ps.map pairD)
  | _, _, .nil => .nil
  | _, _, .cons ⟨b, e, b1, _, hb⟩ t => by
    subst e
    exact .cons (.tup (SqT.of (off_at b1 hb)) (.cons (.int _) (.cons (.int _) .nil))) (pairs_dp t)
theorem dp_two {K : PySem.W.Frag} {H : Hp} {v : V} {x y : Int} (h : Dp K H v (.tuple [.int x, .int y])) : ∃ a, v = .ref a ∧ SqT K H a [.int x, .int y] := by
  cases h with
  | tup h1 h2 =>
    cases h2 with
    | cons a h2 =>
    cases h2 with
    | cons b h2 =>
    cases h2
    cases a
    cases b
    exact ⟨_, rfl, h1⟩
theorem pair_shaped {a b : Int} : SeqAt.shaped (.tuple [.int a, .int b]) = true := ints_shapedT [a, b]
theorem two_eqv {a b c d : Int} : PyData.eqv (.tuple [.int a, .int b]) (.tuple [.int c, .int d]) = (decide (a = c) && decide (b = d)) := by
  simp only [PyData.eqv, PyData.eqvAll, Bool.and_true]
  rw [Bool.eq_iff_iff]
  simp
def PairsIn (z : Int) (ps : List (Int × Int)) : Prop := ∀ q ∈ ps, -1 ≤ q.1 ∧ q.1 < z ∧ -1 ≤ q.2 ∧ q.2 < z
theorem dp_ints {K : PySem.W.Frag} {H : Hp} : ∀ {vs : List V} {ns : List Int}, DpAll K H vs (ns.map PyData.int) → vs = ns.map V.int
  | [], [], _ => rfl
  | _ :: _, _ :: ns, .cons (.int _) t => by rw [dp_ints (ns := ns) t]; rfl
theorem dt_ints {K : PySem.W.Frag} {p : Addr} {H : Hp} {v : V} {ns : List Int} (h : Dt K p H v (.tuple (ns.map PyData.int))) : ∃ a : Addr, v = .ref a ∧ SqT K H a (ns.map V.int) := by
  obtain ⟨a, xs, e, hx, al⟩ := h.get
  exact ⟨a, e, by rw [← dp_ints al]; exact hx⟩
theorem InZ.app {z : Int} {a b : List Int} (h : InZ z a) (k : InZ z b) : InZ z (a ++ b) := fun x hx => (List.mem_append.mp hx).elim (h x) (k x)
theorem InZ.one {z x : Int} (h : 0 ≤ x) (k : x < z) : InZ z [x] := fun y hy => by rw [List.mem_singleton.mp hy]; exact ⟨h, k⟩
theorem InZ.take {z : Int} {a : List Int} (h : InZ z a) (j : Nat) : InZ z (a.take j) := fun x hx => h x (List.mem_of_mem_take hx)
theorem InZ.drop {z : Int} {a : List Int} (h : InZ z a) (j : Nat) : InZ z (a.drop j) := fun x hx => h x (List.mem_of_mem_drop hx)
theorem PairsIn.app {z : Int} {a b : List (Int × Int)} (h : PairsIn z a) (k : PairsIn z b) : PairsIn z (a ++ b) := fun x hx => (List.mem_append.mp hx).elim (h x) (k x)
theorem PairsIn.one {z : Int} {q : Int × Int} (h : -1 ≤ q.1 ∧ q.1 < z ∧ -1 ≤ q.2 ∧ q.2 < z) : PairsIn z [q] := fun y hy => by rw [List.mem_singleton.mp hy]; exact h
theorem PairsIn.take {z : Int} {a : List (Int × Int)} (h : PairsIn z a) (j : Nat) : PairsIn z (a.take j) := fun x hx => h x (List.mem_of_mem_take hx)
theorem PairsIn.drop {z : Int} {a : List (Int × Int)} (h : PairsIn z a) (j : Nat) : PairsIn z (a.drop j) := fun x hx => h x (List.mem_of_mem_drop hx)
theorem cut_init {xs : List V} (h : 0 < xs.length) : cutV xs none (some (-1)) = xs.take (xs.length - 1) := by
  have e : HT.sIx xs.length xs.length (some (-1)) = xs.length - 1 := by
    show (if (-1 : Int) < 0 then ((-1 : Int) + (xs.length : Int)).toNat else min (-1 : Int).toNat xs.length) = xs.length - 1
    rw [if_pos (by decide)]
    omega
  unfold cutV
  rw [HT.sIx_none, e, List.drop_zero, Nat.sub_zero]
theorem put_len {α : Type} {l : List α} {x : α} {j : Nat} (h : j < l.length) : (l.take j ++ [x] ++ l.drop (j + 1)).length = l.length := by
  simp only [List.length_append, List.length_take, List.length_singleton, List.length_drop]
  omega

/-! ### nothing stands ahead just if it heads -/
theorem ahead_nil {ns : List Int} {s : Int} {m g : Nat} : (ahead s (headsI ns m g)) = [] ↔ ns.getD m 0 = s := by
  unfold headsI
  rw [List.range_succ_eq_map, List.map_cons]
  by_cases e : ns.getD m 0 = s
  · simp only [ahead, Nat.sub_zero, e]
    simp
  · simp only [ahead, Nat.sub_zero, if_neg e, e]
    simp
theorem ahead_sub {s k : Int} {ns : List Int} {m g : Nat} (gm : g ≤ m) (ml : m < ns.length) (h : k ∈ ahead s (headsI ns m g)) : k ∈ ns := by
  obtain ⟨i, hi, _⟩ := mem_ahead.mp h
  obtain ⟨j, _, hj⟩ := List.mem_map.mp (List.mem_of_getElem? hi)
  rw [← hj, List.getD_eq_getElem?_getD, List.getElem?_eq_getElem (by omega)]
  exact List.getElem_mem _
theorem sorted_nil {out ns : List Int} (h : Sorted out ns) : out = [] ↔ ns = [] := by
  constructor
  · rintro rfl
    cases ns with
    | nil => rfl
    | cons x r => exact absurd ((h.2 x).mpr List.mem_cons_self) List.not_mem_nil
  · rintro rfl
    cases out with
    | nil => rfl
    | cons x r => exact absurd ((h.2 x).mp List.mem_cons_self) List.not_mem_nil

/-! ### pairs as data -/
def logT (ps : List (Int × Int)) : PyData := .tuple (ps.map pairD)
def PairsSo (z : Int) (ps : List (Int × Int)) : Prop := ∀ q ∈ ps, -1 ≤ q.1 ∧ q.1 < z ∧ -1 ≤ q.2 ∧ q.2 < z ∧ (q.1 = -1 → q.2 = -1)
theorem pairs_shaped (ps : List (Int × Int)) : SeqAt.shaped (.list (ps.map pairD)) = true ∧ SeqAt.shaped (.tuple (ps.map pairD)) = true := by
  have h1 : PyData.canLayAll0 (ps.map pairD) = true := by
    induction ps with
    | nil => simp only [List.map_nil, PyData.canLayAll0]
    | cons q ps ih => simp only [List.map_cons, PyData.canLayAll0, pairD, PyData.canLay0, ih, Bool.and_self]
  have h2 : PyData.depthAll (ps.map pairD) ≤ 1 := depthAll_le.mpr fun d hd => by
    obtain ⟨q, _, rfl⟩ := List.mem_map.mp hd
    simp [pairD, PyData.depth, PyData.depthAll]
  have h4 : PyData.depth (.tuple (ps.map pairD)) ≤ 64 := by simp only [PyData.depth]; omega
  have h4' : PyData.depth (.list (ps.map pairD)) ≤ 64 := by simp only [PyData.depth]; omega
  have h5 : PyData.canLay0 (.tuple (ps.map pairD)) = true := by simp only [PyData.canLay0, h1]
  have h5' : PyData.canLay0 (.list (ps.map pairD)) = true := by simp only [PyData.canLay0, h1]
  exact ⟨Bool.and_eq_true_iff.mpr ⟨h5', decide_eq_true h4'⟩, Bool.and_eq_true_iff.mpr ⟨h5, decide_eq_true h4⟩⟩
theorem list_nil (ds : List PyData) : PyData.eqv (.list ds) (.list []) = ds.isEmpty := by cases ds <;> simp [PyData.eqv, PyData.eqvAll]
theorem paired_len {α β : Type} {F : α → β → Prop} : ∀ {as : List α} {bs : List β}, Paired F as bs → as.length = bs.length
  | _, _, .nil => rfl
  | _, _, .cons _ t => by rw [List.length_cons, List.length_cons, paired_len t]
theorem PairsSo.app {z : Int} {a b : List (Int × Int)} (h : PairsSo z a) (k : PairsSo z b) : PairsSo z (a ++ b) := fun x hx => (List.mem_append.mp hx).elim (h x) (k x)
theorem PairsSo.one {z : Int} {q : Int × Int} (h : -1 ≤ q.1 ∧ q.1 < z ∧ -1 ≤ q.2 ∧ q.2 < z ∧ (q.1 = -1 → q.2 = -1)) : PairsSo z [q] := fun y hy => by rw [List.mem_singleton.mp hy]; exact h
theorem PairsSo.all {z : Int} {a : List (Int × Int)} (h : PairsSo z a) : PairsIn z a := fun x hx => by
  obtain ⟨a, b, c, d, _⟩ := h x hx
  exact ⟨a, b, c, d⟩

/-! ### a drawn log -/
/-- what has been drawn so far -/
def LogAt (K : PySem.W.Frag) (p th tc F : Addr) (many z r g : Int) (cs : List Int) (J1 : Hp) (i N : Nat) (σ : L2.St) (J : Hp) : Prop := ∃ (y5 y6 y7 : Option V) (ps : List (Int × Int)) (fs : List V) (n' : Nat), σ = [some (.ref p), some (.ref th), some (.int many), some (.ref tc), some (.ref F), y5, y6, y7] ∧ ps.length ≤ i ∧ J F = some (.lst fs) ∧
  J th = some (.tup [.int z, .int r, .int g]) ∧ J tc = some (.tup (cs.map V.int)) ∧ Paired (PairAt J p F) fs ps ∧ PairsSo z ps ∧ n' ≤ N ∧ Deck K J p n' ∧ Keep p J1 J
theorem paired_set {α β : Type} {F : α → β → Prop} : ∀ {as : List α} {bs : List β} {a : α} {b : β} (j : Nat), Paired F as bs → F a b → Paired F (as.set j a) (bs.set j b)
  | _, _, _, _, _, .nil, _ => .nil
  | _, _, _, _, 0, .cons _ t, h => .cons h t
  | _, _, _, _, j + 1, .cons r t, h => .cons r (paired_set j t h)
theorem pairsIn_set {z : Int} {q : Int × Int} (h : -1 ≤ q.1 ∧ q.1 < z ∧ -1 ≤ q.2 ∧ q.2 < z ∧ (q.1 = -1 → q.2 = -1)) {ps : List (Int × Int)} (j : Nat) (k : PairsSo z ps) : PairsSo z (ps.set j q) := fun x hx => by
  rcases List.mem_or_eq_of_mem_set hx with hx | rfl
  · exact k x hx
  · exact h
def sp_log (K : PySem.W.Frag) : Sp := fun vs H Q _ => ∃ (p th : Addr) (z r : Int) (g many n : Nat), vs = [.ref p, .ref th, .int (many : Int)] ∧ H th = some (.tup [.int z, .int r, .int (g : Int)]) ∧ 2 ≤ z ∧ z ≤ 4 ∧ g ≤ 3 ∧ 1 ≤ many ∧ many ≤ 40 ∧ Deck K H p n ∧ n < 400000 ∧
  ∀ (ps : List (Int × Int)) (t : Addr) (fs : List V) (J : Hp) (n' : Nat), ps.length ≤ many → PairsSo z ps → SqT K J t fs → DpAll K (off p J) fs (ps.map pairD) → n' ≤ n + 206 + 4 * many → Deck K J p n' → Keep p H J → Q (.ref t) J
section
variable {P : Program} {w : World} {K : PySem.W.Frag} {mg : Str → Option Value} {base : Heap}
theorem ok_log (T : Txt K mg) : FnOk P w K mg base CX0 4 T.a_log T.d_log ["_law_deck_here", "_law_house_here", "_law_many"] (sp_log K) := by
  have G_draw : FnOk P w K mg base CX0 1 T.a_draw T.d_draw ["_law_deck_here", "_law_many"] (sp_draw K) := ok_draw T
  have G_course : FnOk P w K mg base CX0 3 T.a_course T.d_course ["_law_deck_here", "_law_house_here", "_law_many"] (sp_courseK K) := ok_courseK T
  have G_oneT : FnOk P w K mg base CX0 2 T.a_one T.d_one ["_law_deck_here", "_law_items"] (sp_oneT K) := ok_oneT T
  have G_names : FnOk P w K mg base CX0 1 T.a_names T.d_names ["_law_house_here", "_law_course_here", "_law_moment", "_law_server"] (sp_lnames K) := ok_lnames T
  refine T.F_log.ok sc_log (fun vs H Q E h => ?_) (fun cdv A outer s H vs Q E hr h => ?_)
  · obtain ⟨p, th, z, r, g, many, n, rfl, _⟩ := h
    rfl
  · obtain ⟨p, th, z, r, g, many, n, rfl, hth, z2, z4, g3, m1, m40, D, hn, k⟩ := h
    refine ⟨_, (pss_cons (ps_set (i := 3) sc_log.nd rfl (Or.inl rfl) (pe_call G_course (hr.mono (by omega)) (by rfl) T.g_course T.F_course.kp T.b_course .nil pass0 (pa_cons (pv 0) (pa_cons (pv 1) (pa_cons (pe_op op_add (pe_op op_add (pe_ix ix_tup (pv 1) pe_int (fun _ _ => rfl)) pe_int) (pv 2)) pa_nil)))))
      (pss_cons (ps_set (i := 4) sc_log.nd rfl (Or.inl rfl) (pe_lst pa_nil))
      (pss_cons (ps_for PassesOwn.never rfl (pi_range1 (by rfl) T.m_range (pa_cons (pe_call G_draw (hr.mono (by omega)) (by rfl) T.g_draw T.F_draw.kp T.b_draw .nil pass0 (pa_cons (pv 0) (pa_cons (pe_op op_add (pv 2) pe_int) pa_nil))) pa_nil)) (pg_name (i := 5) sc_log.nd rfl (Or.inl rfl))
        (pss_cons (ps_set (i := 6) sc_log.nd rfl (Or.inl rfl) (pe_call G_draw (hr.mono (by omega)) (by rfl) T.g_draw T.F_draw.kp T.b_draw .nil pass0 (pa_cons (pv 0) (pa_cons (pe_ix ix_tup (pv 1) pe_int (fun _ _ => rfl)) pa_nil))))
      (pss_cons (ps_set (i := 7) sc_log.nd rfl (Or.inl rfl) (pe_call G_names (hr.mono (by omega)) (by rfl) T.g_names T.F_names.kp T.b_names .nil pass0 (pa_cons (pv 1) (pa_cons (pv 3) (pa_cons (pe_op op_add (pe_ix ix_tup (pv 1) pe_int (fun _ _ => rfl)) (pv 5)) (pa_cons (pv 6) pa_nil))))))
      (pss_one (ps_if (pt_cut (PW.pt (pw_or (pt_cmpR (op_eqD hr.units) (pv 7) (pe_tup pa_nil) (nomark _)) (pw_or1 (pt_cmpR op_eq (pe_call G_draw (hr.mono (by omega)) (by rfl) T.g_draw T.F_draw.kp T.b_draw .nil pass0 (pa_cons (pv 0) (pa_cons pe_int pa_nil))) pe_int (nomark _))))))
        (pss_one (ps_expr (pe_bm PySem.F.plainAttrs_list PySem.F.slot_list_append PySem.F.type_list_append mt_append (pv 4) (pa_cons (pe_tup (pa_cons (pe_un un_neg pe_int) (pa_cons (pe_un un_neg pe_int) pa_nil))) pa_nil))))
        (pss_one (ps_expr (pe_bm PySem.F.plainAttrs_list PySem.F.slot_list_append PySem.F.type_list_append mt_append (pv 4) (pa_cons (pe_tup (pa_cons (pv 6) (pa_cons (pe_call G_oneT (hr.mono (by omega)) (by rfl) T.g_one T.F_one.kp T.b_one .nil pass0 (pa_cons (pv 0) (pa_cons (pv 7) pa_nil))) pa_nil))) pa_nil)))))))))
      (Evl.pss_cut (ps_if (PW.pt (pw_and (pt_cmpR (op_neD hr.units) (pv 4) (pe_lst pa_nil) (nomark _)) (pw_and1 (pt_cmpR op_eq (pe_call G_draw (hr.mono (by omega)) (by rfl) T.g_draw T.F_draw.kp T.b_draw .nil pass0 (pa_cons (pv 0) (pa_cons pe_int pa_nil))) pe_int (nomark _)))))
        (pss_cons (ps_set (i := 6) sc_log.nd rfl (Or.inl rfl) (pe_call G_draw (hr.mono (by omega)) (by rfl) T.g_draw T.F_draw.kp T.b_draw .nil pass0 (pa_cons (pv 0) (pa_cons (pe_ix ix_tup (pv 1) pe_int (fun _ _ => rfl)) pa_nil))))
      (pss_one (ps_asg (pe_tup (pa_cons (pv 6) (pa_cons (pe_op op_modN (pe_callTy (T := "int") call_int1 (by rfl) T.m_int (by decide +kernel) (pa_cons (pe_op op_add (pe_op op_add (pv 6) pe_int) (pe_call G_draw (hr.mono (by omega)) (by rfl) T.g_draw T.F_draw.kp T.b_draw .nil pass0 (pa_cons (pv 0) (pa_cons (pe_op op_sub (pe_ix ix_tup (pv 1) pe_int (fun _ _ => rfl)) pe_int) pa_nil)))) pa_nil)) (pe_ix ix_tup (pv 1) pe_int (fun _ _ => rfl))) pa_nil))) (pg_sub (pv 4) (pe_call G_draw (hr.mono (by omega)) (by rfl) T.g_draw T.F_draw.kp T.b_draw .nil pass0 (pa_cons (pv 0) (pa_cons (pe_callB (id := "len") call_len_seq (by rfl) T.m_len (by decide +kernel) (pa_cons (pv 4) pa_nil)) pa_nil))) set_list))))
        pss_nil)
      (pss_one (ps_ret (pe_callTy (T := "tuple") call_tuple_of (by rfl) T.m_tuple (by decide +kernel) (pa_cons (pv 4) pa_nil)))))))), ?_⟩
    have th0 : th ≠ p := D.ne_tup hth
    refine ⟨_, rfl, _, rfl, _, rfl, th, _, 2, _, rfl, rfl, SqT.of hth, rfl, _, _, rfl, rfl, _, rfl, _, _, rfl, rfl, p, th, z, r, g, _, n, rfl, hth, z2, z4, by show 1 ≤ (g : Int) + 1 + (many : Int); omega, by show (g : Int) + 1 + (many : Int) ≤ 100; omega, D, by omega, fun cs tc J1 n1 cl cz ck hc _ n1a n1b D1 K1 => ?_⟩
    have cl' : (cs.length : Int) = (g : Int) + 1 + (many : Int) := cl
    have tc0 : tc ≠ p := D1.ne_tup hc
    refine ⟨Nat.zero_le _, fun F hF => ?_⟩
    have FP : F ≠ p := D1.ne_new hF
    have D2 := D1.put hF (o := .lst [])
    have K2 := K1.trans (Keep.new hF (o := .lst []))
    have hF2 : upd J1 F (.lst []) F = some (.lst []) := upd_same
    have K12 : Keep p J1 (upd J1 F (.lst [])) := Keep.new hF
    have th2 := (Keep.new (p := p) hF (o := .lst [])).at th0 (K1.at th0 hth)
    have tc2 := (Keep.new (p := p) hF (o := .lst [])).at tc0 hc
    have thF : th ≠ F := fun e => by rw [e, hF2] at th2; cases th2
    have tcF : tc ≠ F := fun e => by rw [e, hF2] at tc2; cases tc2
    generalize upd J1 F (.lst []) = J2 at *
    refine ⟨_, rfl, _, rfl, _, _, rfl, rfl, p, (many : Int) + 1, n1, rfl, by omega, by omega, D2, by omega, fun m J3 m0 m1' D3 K3 => ⟨m, rfl, by omega, by omega, for_range (lo := 0) (n := m.toNat) (fun i σ J => LogAt K p th tc F (many : Int) z r (g : Int) cs J1 i (n1 + 1 + 3 * i) σ J) ⟨none, none, none, [], [], n1 + 1, rfl, Nat.zero_le _, K3.at FP hF2, K3.at th0 th2, K3.at tc0 tc2, .nil, fun q hq => (List.not_mem_nil hq).elim, by omega, D3, K12.trans K3⟩ ?_ ?_⟩⟩
    · rintro i σ J hi ⟨y5, y6, y7, ps, fs, n', rfl, lp, hJF, thJ, tcJ, al, inP, hn', DJ, KJ⟩
      have hi' : (i : Int) < m := by omega
      refine ⟨_, rfl, _, rfl, th, _, 0, _, rfl, rfl, SqT.of thJ, rfl, p, z, n', rfl, by omega, by omega, DJ, by omega, fun sv J4 sv0 sv1 D4 K4 => ?_⟩
      have th4 := K4.at th0 thJ
      have tc4 := K4.at tc0 tcJ
      refine ⟨_, rfl, _, rfl, _, rfl, th, _, 2, _, rfl, rfl, SqT.of th4, rfl, _, rfl, _, _, rfl, rfl, _, rfl, th, tc, z, r, sv, g, g + i, cs, (by show [V.ref th, V.ref tc, V.int ((g : Int) + (0 + (i : Int))), V.int sv] = _; rw [show ((g : Int) + (0 + (i : Int))) = ((g + i : Nat) : Int) by omega]), SqT.of th4, SqT.of tc4, by omega, by omega, by omega, by omega, fun out t J5 so lo S5 ht5 => ?_⟩
      have D5 := D4.of_same S5
      have K45 := K4.trans (Keep.of_same S5)
      have mem : ∀ x ∈ out, 0 ≤ x ∧ x < z := fun x hx => cz x (ahead_sub (by omega) (by omega) ((so.2 x).mp hx))
      refine ⟨fun b J' => (b = false → out ≠ []) ∧ ∃ n5, n5 ≤ n' + 2 ∧ Deck K J' p n5 ∧ Keep p J5 J', ?_, ?_⟩
      · refine ⟨_, rfl, Nat.zero_le _, fun q hq => ⟨.tuple (out.map PyData.int), .tuple [], .tup (sameT (same_new hq) (SqT.of ht5)) (ints_dp out), .tup (SqT.of upd_same) .nil, ints_shapedT out, by decide, _, rfl, ?_⟩⟩
        rw [nil_tup]
        refine ite2 (fun _ => ⟨fun e => (nomatch e), n' + 1, by omega, D5.put hq, Keep.new hq⟩) (fun ho => ?_)
        have o0 : out ≠ [] := fun e => by rw [e] at ho; exact ho rfl
        exact ⟨_, rfl, p, 4, n' + 1, rfl, by decide, by decide, D5.put hq, by omega, fun x J6 x0 x1 D6 K6 => ⟨rfl, _, rfl, fun _ => o0, n' + 2, by omega, D6, (Keep.new hq).trans K6⟩⟩
      · rintro b J6 ⟨hb, n6, hn6, D6, K6⟩
        have push : ∀ (J7 : Hp) (n7 : Nat) (x y : Int) (u : Addr) (σ : L2.St), σ = [some (.ref p), some (.ref th), some (.int (many : Int)), some (.ref tc), some (.ref F), some (.int (0 + (i : Int))), some (.int sv), some (.ref t)] → J7 u = none → n7 ≤ n' + 3 → Deck K J7 p n7 → Keep p J5 J7 → (-1 ≤ x ∧ x < z ∧ -1 ≤ y ∧ y < z ∧ (x = -1 → y = -1)) →
            (upd J7 u (.tup [.int x, .int y]) F = some (.lst fs)) ∧ fs.length < sizeLine ∧ LogAt K p th tc F (many : Int) z r (g : Int) cs J1 (i + 1) (n1 + 1 + 3 * (i + 1)) σ (upd (upd J7 u (.tup [.int x, .int y])) F (.lst (fs ++ [.ref u]))) := fun J7 n7 x y u σ es gu hn7 D7 K7 inq => by
          have K47 := K45.trans K7
          have F7 := K47.at FP hJF
          have up : u ≠ p := D7.ne_new gu
          have uF : u ≠ F := fun e => by rw [e, F7] at gu; cases gu
          have K8 := K47.trans (Keep.new gu (o := .tup [.int x, .int y]))
          have F8 := K8.at FP hJF
          have u8 : upd J7 u (.tup [.int x, .int y]) u = some (.tup [.int x, .int y]) := upd_same
          have D8 := D7.put gu (o := .tup [.int x, .int y])
          have th8 := K8.at th0 thJ
          have tc8 := K8.at tc0 tcJ
          generalize upd J7 u (.tup [.int x, .int y]) = J8 at *
          refine ⟨F8, small1000' (by rw [paired_len al]; omega), _, _, _, ps ++ [(x, y)], fs ++ [.ref u], n7, es, by rw [List.length_append, List.length_singleton]; omega, upd_same, by rw [upd_ne thF]; exact th8, by rw [upd_ne tcF]; exact tc8, ?_, inP.app (.one inq), by omega, D1.write hF (KJ.trans K8) D8, (KJ.trans K8).write hF FP⟩
          refine paired_snoc (al.mono fun v q ⟨b, e, b1, b2, hb⟩ => ⟨b, e, b1, b2, by rw [upd_ne b2]; exact K8.at b1 hb⟩) ⟨u, rfl, up, uF, by rw [upd_ne uF]; exact u8⟩
        have F6 : J6 F = some (.lst fs) := (K45.trans K6).at FP hJF
        cases b with
        | true =>
          refine iteT ⟨_, rfl, .inl ⟨rfl, _, SqL.of F6⟩, 1, rfl, 1, rfl, by show 2 ≤ sizeLine; decide, fun u gu => ?_⟩
          obtain ⟨h1, h2, h3⟩ := push J6 n6 (-1) (-1) u _ rfl gu (by omega) D6 K6 (by omega)
          exact ⟨F, fs, _, rfl, rfl, h1, h2, h3⟩
        | false =>
          have o0 := hb rfl
          have ol : 0 < out.length := List.length_pos_iff.mpr o0
          refine iteF ⟨_, rfl, .inl ⟨rfl, _, SqL.of F6⟩, _, rfl, _, rfl, _, rfl, p, t, out.map V.int, n6, rfl, SqT.of (K6.at (D5.ne_tup ht5) ht5), by rw [List.length_map]; exact ol, by rw [List.length_map]; omega, D6, by omega, fun j x J7 hx D7 K7 => ?_⟩
          obtain ⟨y, hy, rfl⟩ : ∃ y, out[j]? = some y ∧ x = .int y := by
            rw [List.getElem?_map] at hx
            cases e : out[j]? with
            | none => rw [e] at hx; cases hx
            | some y => rw [e] at hx; cases hx; exact ⟨y, rfl, rfl⟩
          have iny := mem y (List.mem_of_getElem? hy)
          refine ⟨by show 2 ≤ sizeLine; decide, fun u gu => ?_⟩
          obtain ⟨h1, h2, h3⟩ := push J7 (n6 + 1) sv y u _ rfl gu (by omega) D7 (K6.trans K7) (by omega)
          exact ⟨F, fs, _, rfl, rfl, h1, h2, h3⟩
    · rintro σ J ⟨y5, y6, y7, ps, fs, n', rfl, lp, hJF, thJ, tcJ, al, inP, hn', DJ, KJ⟩
      have lp' : ps.length ≤ many := by omega
      refine ⟨fun σ' J' => LogAt K p th tc F (many : Int) z r (g : Int) cs J1 many (n1 + 1 + 3 * many + 4) σ' J', ?_, ?_⟩
      · have base : ∀ (J6 : Hp) (n6 : Nat), n6 ≤ n' + 4 → Deck K J6 p n6 → Keep p J J6 → LogAt K p th tc F (many : Int) z r (g : Int) cs J1 many (n1 + 1 + 3 * many + 4) [some (.ref p), some (.ref th), some (.int (many : Int)), some (.ref tc), some (.ref F), y5, y6, y7] J6 := fun J6 n6 h6 D6 K6 =>
          ⟨y5, y6, y7, ps, fs, n6, rfl, lp', K6.at FP hJF, K6.at th0 thJ, K6.at tc0 tcJ, al.mono fun v q ⟨b, e, b1, b2, hb⟩ => ⟨b, e, b1, b2, K6.at b1 hb⟩, inP, by omega, D6, KJ.trans K6⟩
        refine ⟨_, rfl, Nat.zero_le _, fun q hq => ⟨.list (ps.map pairD), .list [], .lst (SqL.of (same_new hq _ _ hJF)) ?_, .lst (SqL.of upd_same) .nil, (pairs_shaped ps).1, by decide, _, rfl, ?_⟩⟩
        · exact dpAllSame off_in _ _ ((Keep.new (p := p) hq).all (pairs_dp al))
        rw [list_nil]
        refine ite2 (fun hne => ?_) (fun _ => base _ n' (by omega) (DJ.put hq) (Keep.new hq))
        have p0 : ps ≠ [] := fun e => by rw [e] at hne; cases hne
        have pl0 : 0 < ps.length := List.length_pos_iff.mpr p0
        refine ⟨_, rfl, p, 3, n', rfl, by decide, by decide, DJ.put hq, by omega, fun x J4 x0 x1 D4 K4 => ⟨rfl, _, rfl, ite2 (fun _ => ?_) (fun _ => base J4 (n' + 1) (by omega) D4 ((Keep.new hq).trans K4))⟩⟩
        have K04 : Keep p J J4 := (Keep.new hq).trans K4
        refine ⟨_, rfl, _, rfl, th, _, 0, _, rfl, rfl, SqT.of (K04.at th0 thJ), rfl, p, z, n' + 1, rfl, by omega, by omega, D4, by omega, fun sv J5 sv0 sv1 D5 K5 => ?_⟩
        have K05 := K04.trans K5
        refine ⟨_, rfl, _, rfl, _, _, rfl, rfl, _, rfl, _, rfl, th, _, 0, _, rfl, rfl, SqT.of (K05.at th0 thJ), rfl, _, _, rfl, rfl, p, z - 1, n' + 2, rfl, by omega, by omega, D5, by omega, fun x2 J6 x20 x21 D6 K6 => ?_⟩
        have K06 := K05.trans K6
        refine ⟨_, _, rfl, rfl, .inl ⟨_, rfl, _, rfl, th, _, 0, _, rfl, rfl, SqT.of (K06.at th0 thJ), rfl, _, _, rfl, rfl, by omega, by show 2 ≤ sizeLine; decide, fun u gu => ?_⟩⟩
        have f0 : 0 ≤ (sv + 1 + x2).fmod z := fmod_lo (by omega)
        have f1 : (sv + 1 + x2).fmod z < z := fmod_hi (by omega)
        have K07 := K06.trans (Keep.new gu (o := .tup [.int sv, .int ((sv + 1 + x2).fmod z)]))
        have D7 := D6.put gu (o := .tup [.int sv, .int ((sv + 1 + x2).fmod z)])
        have u7 : upd J6 u (.tup [.int sv, .int ((sv + 1 + x2).fmod z)]) u = some (.tup [.int sv, .int ((sv + 1 + x2).fmod z)]) := upd_same
        have up : u ≠ p := D6.ne_new gu
        have uF : u ≠ F := fun e => by rw [e, K06.at FP hJF] at gu; cases gu
        show gSub (tVar 4) _ rSetL (V.ref u) _ (upd J6 u (.tup [.int sv, .int ((sv + 1 + x2).fmod z)])) _
        generalize upd J6 u (.tup [.int sv, .int ((sv + 1 + x2).fmod z)]) = J7 at *
        have lfp := paired_len al
        refine ⟨_, rfl, _, rfl, _, rfl, F, fs, rfl, .inl (SqL.of (K07.at FP hJF)), p, _, n' + 3, rfl, by omega, by omega, D7, by omega, fun y J8 y0 y1 D8 K8 => ?_⟩
        obtain ⟨j, rfl⟩ : ∃ j : Nat, y = (j : Int) := ⟨y.toNat, (Int.toNat_of_nonneg y0).symm⟩
        have hj : j < fs.length := by omega
        have K08 := K07.trans K8
        refine ⟨F, fs, (j : Int), j, rfl, rfl, K08.at FP hJF, ?_, ?_⟩
        · exact Evl.ixN_nat hj
        refine ⟨y5, _, y7, ps.set j (sv, (sv + 1 + x2).fmod z), fs.set j (.ref u), n' + 4, rfl, by rw [List.length_set]; omega, upd_same, by rw [upd_ne thF]; exact K08.at th0 thJ, by rw [upd_ne tcF]; exact K08.at tc0 tcJ, ?_, pairsIn_set (by omega) j inP, by omega, D1.write hF (KJ.trans K08) D8, (KJ.trans K08).write hF FP⟩
        exact paired_set j (al.mono fun v q ⟨b, e, b1, b2, hb⟩ => ⟨b, e, b1, b2, by rw [upd_ne b2]; exact K08.at b1 hb⟩) ⟨u, rfl, up, uF, by rw [upd_ne uF]; exact K8.at up u7⟩
      · rintro σ' J' ⟨y5, y6, y7, ps, fs, n', rfl, lp, hJF, thJ, tcJ, al, inP, hn', DJ, KJ⟩
        refine ⟨_, rfl, F, fs, rfl, .inl ⟨SqL.of hJF, fun t ht => ?_⟩⟩
        exact k ps t fs _ n' lp inP (SqT.of upd_same) ((Keep.new ht).all (pairs_dp al)) (by omega) (DJ.put ht) ((K1.trans KJ).trans (Keep.new ht))
end

/-! ### for how long the head must stay, by the program -/
def sp_holdof (K : PySem.W.Frag) (tb : Addr) : Sp := fun vs H Q _ => ∃ (th a : Addr) (z r g : Int) (ns : List Int), vs = [.ref th, .ref a] ∧ SqT K H th [.int z, .int r, .int g] ∧ SqT K H a (ns.map V.int) ∧ ns.length ≤ 4000 ∧ GxR.TabG H tb ∧
  ∀ J, Grow H J → Q (.int (holdI r ns)) J
section
variable {P : Program} {w : World} {K : PySem.W.Frag} {mg : Str → Option Value} {base : Heap}
theorem ok_holdof (T : Txt K mg) (TB : GxR.TabB base mg T.c_changes_of T.p_changes_of) : FnOk P w K mg base CX0 3 T.a_hold_of T.d_hold_of ["house", "course"] (sp_holdof K T.p_changes_of) := by
  have G_changes_of : FnOk P w K mg base CX0 2 T.a_changes_of T.d_changes_of ["course"] (sp_changes K T.p_changes_of) := ok_changes T TB
  refine T.F_hold_of.ok sc_hold_of (fun vs H Q E h => ?_) (fun cdv A outer s H vs Q E hr h => ?_)
  · obtain ⟨th, a, z, r, g, ns, rfl, _⟩ := h
    rfl
  · obtain ⟨th, a, z, r, g, ns, rfl, hth, hx, hl, hT, k⟩ := h
    refine ⟨_, (pss_cons (ps_set (i := 2) sc_hold_of.nd rfl (Or.inl rfl) (pe_call G_changes_of (hr.mono (by omega)) (by rfl) T.g_changes_of T.F_changes_of.kp T.b_changes_of .nil pass0 (pa_cons (pv 1) pa_nil)))
      (pss_cons (ps_if (pt_cmpR op_eq (pe_callB (id := "len") call_len_seq (by rfl) T.m_len (by decide +kernel) (pa_cons (pv 2) pa_nil)) pe_int (nomark _))
        (pss_one (ps_ret pe_int))
        pss_nil)
      (pss_cons (ps_set (i := 3) sc_hold_of.nd rfl (Or.inl rfl) (pe_op op_sub (pe_op op_sub (pe_callB (id := "len") call_len_seq (by rfl) T.m_len (by decide +kernel) (pa_cons (pv 1) pa_nil)) pe_int) (pe_ix ix_tup (pv 2) (pe_un un_neg pe_int) (fun _ _ => rfl))))
      (pss_one (ps_ret (pe_callB (id := "max") (call_max2 rfl) (by rfl) T.m_max (by decide +kernel) (pa_cons pe_int (pa_cons (pe_op op_sub (pe_op op_sub (pe_ix ix_tup (pv 0) pe_int (fun _ _ => rfl)) pe_int) (pv 3)) pa_nil)))))))), ?_⟩
    have ll : (ns.map V.int).length = ns.length := List.length_map ..
    refine ⟨_, rfl, a, ns, rfl, hx, Nat.le_trans hl (by decide), hT, fun t J G ht => ?_⟩
    have kJ := k J G
    have eh : holdI r ns = match (changesI ns).getLast? with
        | none => 0
        | some c => max 0 (r - 1 - ((ns.length : Int) - 1 - c)) := rfl
    rw [eh] at kJ
    generalize changesI ns = cs at ht kJ
    refine ⟨_, rfl, t, _, rfl, .inr (SqT.of ht), rfl, _, rfl, ?_⟩
    have lc : (cs.map V.int).length = cs.length := List.length_map ..
    rw [lc]
    cases ec : cs.getLast? with
    | none =>
      obtain rfl : cs = [] := by simpa using ec
      exact iteT kJ
    | some c =>
      rw [ec] at kJ
      have cne : cs.length ≠ 0 := fun z => by
        rw [List.eq_nil_of_length_eq_zero z] at ec
        cases ec
      rw [decide_eq_false (show ¬ V.int (cs.length : Int) = V.int 0 from fun e => cne (by have := V.int.inj e; omega))]
      have hl2 : (cs.map V.int).getLast? = some (.int c) := by rw [List.getLast?_map, ec]; rfl
      have hxJ := G.tup hx
      have hthJ := G.tup hth
      refine iteF ⟨_, rfl, a, _, rfl, .inr hxJ, _, _, rfl, rfl, _, rfl, 1, rfl, t, _, -1, _, rfl, rfl, SqT.of ht, atI_last hl2, _, _, rfl, rfl, ?_⟩
      refine ⟨_, rfl, th, _, 1, _, rfl, rfl, hthJ, rfl, _, _, rfl, rfl, _, rfl, _, _, rfl, rfl, _, _, rfl, ?_⟩
      rw [ll]
      have e4 : (if r - 1 - ((ns.length : Int) - 1 - c) > 0 then r - 1 - ((ns.length : Int) - 1 - c) else 0) = max 0 (r - 1 - ((ns.length : Int) - 1 - c)) := by split <;> omega
      show Q (V.int (if r - 1 - ((ns.length : Int) - 1 - c) > 0 then r - 1 - ((ns.length : Int) - 1 - c) else 0)) J
      rw [e4]
      exact kJ
end

/-! ### rows of heads -/
def extR (z : Nat) (rows : List (List Int)) : List (List Int) := rows.flatMap fun r => (List.range z).map fun h : Nat => r ++ [(h : Int)]
def allR (z : Nat) : Nat → List (List Int)
  | 0 => [[]]
  | n + 1 => extR z (allR z n)
def begR (z r g : Int) : List (List Int) := (allR z.toNat (g + 1).toNat).filter fun ns => keptB ns r
theorem mem_extR {z : Nat} {rows : List (List Int)} {x : List Int} : x ∈ extR z rows ↔ ∃ r ∈ rows, ∃ h : Nat, h < z ∧ x = r ++ [(h : Int)] := by
  unfold extR
  rw [List.mem_flatMap]
  constructor
  · rintro ⟨r, hr, hx⟩
    obtain ⟨h, hh, rfl⟩ := List.mem_map.mp hx
    exact ⟨r, hr, h, List.mem_range.mp hh, rfl⟩
  · rintro ⟨r, hr, h, hh, rfl⟩
    exact ⟨r, hr, List.mem_map.mpr ⟨h, List.mem_range.mpr hh, rfl⟩⟩
theorem allR_mem {z : Nat} : ∀ {n : Nat} {x : List Int}, x ∈ allR z n → x.length = n ∧ ∀ y ∈ x, 0 ≤ y ∧ y < (z : Int)
  | 0, x, hx => by
    rw [List.mem_singleton.mp hx]
    exact ⟨rfl, fun y hy => absurd hy List.not_mem_nil⟩
  | n + 1, x, hx => by
    obtain ⟨r, hr, h, hh, rfl⟩ := mem_extR.mp hx
    obtain ⟨a, b⟩ := allR_mem hr
    refine ⟨by rw [List.length_append, a]; rfl, fun y hy => ?_⟩
    rcases List.mem_append.mp hy with e | e
    · exact b y e
    · rw [List.mem_singleton.mp e]; omega
theorem extR_len (z : Nat) : ∀ rows : List (List Int), (extR z rows).length = rows.length * z
  | [] => by simp [extR]
  | r :: rows => by
    have ih := extR_len z rows
    unfold extR at ih ⊢
    rw [List.flatMap_cons, List.length_append, List.length_map, List.length_range, ih, List.length_cons, Nat.succ_mul]
    omega
theorem allR_len (z : Nat) : ∀ n : Nat, (allR z n).length = z ^ n
  | 0 => rfl
  | n + 1 => by
    show (extR z (allR z n)).length = _
    rw [extR_len, allR_len z n, Nat.pow_succ]
theorem allR_small {z r g : Int} (h : HouseOf 81 z r g) : ∀ n : Nat, n ≤ (g + 1).toNat → (allR z.toNat n).length ≤ 81 := fun n hn => by
  obtain ⟨z2, z4, r1, r6, g0, g3, hp⟩ := h
  rw [allR_len]
  have e : ((z.toNat : Int)) = z := Int.toNat_of_nonneg (by omega)
  have p : z.toNat ^ (g + 1).toNat ≤ 81 := by
    have : ((z.toNat ^ (g + 1).toNat : Nat) : Int) = z ^ (g + 1).toNat := by rw [Int.natCast_pow, e]
    omega
  exact Nat.le_trans (Nat.pow_le_pow_right (by omega) hn) p
theorem extR_append (z : Nat) (a b : List (List Int)) : extR z (a ++ b) = extR z a ++ extR z b := by
  unfold extR
  rw [List.flatMap_append]
/-- the values are tuples of these rows -/
abbrev RowsAt (K : PySem.W.Frag) (J : Hp) (us : List V) (rows : List (List Int)) : Prop := Paired (fun (v : V) (ns : List Int) => ∃ q, v = .ref q ∧ SqT K J q (ns.map V.int)) us rows
theorem RowsAt.same {K : PySem.W.Frag} {H J : Hp} {us : List V} {rows : List (List Int)} (h : RowsAt K H us rows) (S : Same H J) : RowsAt K J us rows := Paired.mapP h fun _ _ ⟨q, e, a⟩ => ⟨q, e, sameT S a⟩
theorem RowsAt.grow {K : PySem.W.Frag} {H J : Hp} {us : List V} {rows : List (List Int)} (h : RowsAt K H us rows) (S : Grow H J) : RowsAt K J us rows := Paired.mapP h fun _ _ ⟨q, e, a⟩ => ⟨q, e, S.tup a⟩
theorem RowsAt.put {K : PySem.W.Frag} {J : Hp} {D : Addr} {us : List V} {rows : List (List Int)} {ys : List V} {o : HO} (h : RowsAt K J us rows) (hD : J D = some (.lst ys)) : RowsAt K (upd J D o) us rows := Paired.mapP h fun _ _ ⟨q, e, a⟩ => ⟨q, e, sqT_upd a hD⟩
theorem paired_length {α β : Type} {R : α → β → Prop} {xs : List α} {ys : List β} (h : Paired R xs ys) : xs.length = ys.length := by
  induction h with
  | nil => rfl
  | cons _ _ ih => rw [List.length_cons, List.length_cons, ih]
theorem paired_put {α β : Type} {R : α → β → Prop} {xs : List α} {ys : List β} (h : Paired R xs ys) {x : α} {y : β} (r : R x y) : Paired R (xs ++ [x]) (ys ++ [y]) := by
  induction h with
  | nil => exact .cons r .nil
  | cons a _ ih => exact .cons a ih
theorem paired_nth {α β : Type} {R : α → β → Prop} {xs : List α} {ys : List β} (h : Paired R xs ys) : ∀ {i : Nat} {x : α}, xs[i]? = some x → ∃ y, ys[i]? = some y ∧ R x y := by
  induction h with
  | nil => intro i x e; simp at e
  | cons a _ ih =>
    intro i x e
    cases i with
    | zero => cases e; exact ⟨_, rfl, a⟩
    | succ i => exact ih e
theorem freshS {H J : Hp} {q : Addr} (S : Same H J) (h : J q = none) : H q = none := by
  cases e : H q with
  | none => rfl
  | some o =>
    have := S _ _ e
    rw [h] at this
    cases this
theorem writeS {q : Addr} {G J : Hp} {o : HO} (k : Same G J) (h : G q = none) : Same G (upd J q o) := fun b u e => by
  rw [upd_ne (ne_of_none e h)]
  exact k b u e
theorem whole_all {z : Int} : ∀ {ns : List Int}, (∀ x ∈ ns, 0 ≤ x ∧ x < z) → (ns.map PyData.int).all (wholeD 0 (z - 1)) = true ∧ (ns.map PyData.int).map intD = ns
  | [], _ => ⟨rfl, rfl⟩
  | x :: ns, h => by
    obtain ⟨a, b⟩ := whole_all (ns := ns) fun y hy => h y (List.mem_cons_of_mem _ hy)
    obtain ⟨x0, x1⟩ := h x List.mem_cons_self
    refine ⟨?_, by rw [List.map_cons, List.map_cons, b]; rfl⟩
    rw [List.map_cons, List.all_cons, a, Bool.and_true]
    simp only [wholeD, Bool.and_eq_true, decide_eq_true_eq]
    omega
/-- such a row is a course just if its rests are kept -/
theorem course_row {z r : Int} {ns : List Int} (hz : ∀ x ∈ ns, 0 ≤ x ∧ x < z) (ne : ns ≠ []) : courseD z r (.tuple (ns.map PyData.int)) = keptB ns r := by
  obtain ⟨a, b⟩ := whole_all hz
  have e : (ns.map PyData.int).isEmpty = false := by
    cases ns with
    | nil => exact absurd rfl ne
    | cons _ _ => rfl
  simp only [courseD, a, b, e, Bool.not_false, Bool.true_and]

/-! ### the beginnings of courses, by the program -/
def sp_begin (K : PySem.W.Frag) (tb : Addr) : Sp := fun vs H Q _ => ∃ (th : Addr) (z r g : Int), vs = [.ref th] ∧ SqT K H th [.int z, .int r, .int g] ∧ HouseOf 81 z r g ∧ GxR.TabG H tb ∧
  ∀ (a : Addr) (us : List V) (J : Hp), Grow H J → H a = none → J a = some (.lst us) → RowsAt K J us (begR z r g) → Q (.ref a) J
section
variable {P : Program} {w : World} {K : PySem.W.Frag} {mg : Str → Option Value} {base : Heap}
theorem ok_begin (T : Txt K mg) (TB : GxR.TabB base mg T.c_changes_of T.p_changes_of) : FnOk P w K mg base CX0 4 T.a_beginnings T.d_beginnings ["house"] (sp_begin K T.p_changes_of) := by
  have G_is_course : FnOk P w K mg base CX0 3 T.a_is_course T.d_is_course ["house", "value"] (sp_iscourse K T.p_changes_of) := ok_iscourse T TB
  refine T.F_beginnings.ok sc_beginnings (fun vs H Q E h => ?_) (fun cdv A outer s H vs Q E hr h => ?_)
  · obtain ⟨th, z, r, g, rfl, _⟩ := h
    rfl
  · obtain ⟨th, z, r, g, rfl, hth, hz, hT, k⟩ := h
    refine ⟨_, (pss_cons (ps_asg (pv 0) (pg_tup (by rfl) (pgs_cons (pg_name (i := 1) sc_beginnings.nd rfl (Or.inr rfl)) (pgs_cons (pg_name (i := 2) sc_beginnings.nd rfl (Or.inl rfl)) (pgs_cons (pg_name (i := 3) sc_beginnings.nd rfl (Or.inl rfl)) pgs_nil)))))
      (pss_cons (ps_set (i := 4) sc_beginnings.nd rfl (Or.inl rfl) (pe_lst (pa_cons (pe_tup pa_nil) pa_nil)))
      (pss_cons (ps_for PassesOwn.never rfl (pi_range1 (by rfl) T.m_range (pa_cons (pe_op op_add (pv 3) pe_int) pa_nil)) (pg_name (i := 2) sc_beginnings.nd rfl (Or.inl rfl))
        (pss_one (ps_setLc2 (i := 4) (own := [("row", 5), ("head", 6)]) (vs1 := [6]) (g := gName 5) (g1 := gName 6) (by rfl) sc_beginnings.nd rfl rfl (sw_true rfl rfl rfl (by decide +kernel)) (pi_list (pv 4)) (blkOk_by (own := [("row", 5), ("head", 6)]) (N := ["house", "servers", "_", "lag", "rows", "row", "head"]) (sc := defScope s_beginnings) (by decide +kernel)) (by decide) (fun _ _ _ _ _ => (pg_name (i := 5) sc_beginnings.nd rfl (Or.inl rfl))) (fun _ _ _ _ _ => pts_nil) (fun _ _ _ _ _ => (pi_range1 (by rfl) T.m_range (pa_cons (pv 1) pa_nil))) (fun _ _ _ _ _ => (pg_name (i := 6) sc_beginnings.nd rfl (Or.inl rfl))) (fun _ _ _ _ _ => pts_nil) (fun _ _ _ _ _ => (pe_op (catSK K rfl) (pv 5) (pe_tup (pa_cons (pv 6) pa_nil)))))))
      (pss_one (ps_ret (pe_lc (own := [("row", 5)]) (g := gName 5) (by rfl) sc_beginnings.nd (pi_list (pv 4)) (blkOk_by (own := [("row", 5)]) (N := ["house", "servers", "_", "lag", "rows", "row", "head"]) (sc := defScope s_beginnings) (by decide +kernel)) (fun _ _ _ _ _ => (pg_name (i := 5) sc_beginnings.nd rfl (Or.inl rfl))) (fun _ _ _ _ _ => (pts_one (pt_val (pe_call G_is_course (hr.mono (by omega)) (by rfl) T.g_is_course T.F_is_course.kp T.b_is_course .nil pass0 (pa_cons (pv 0) (pa_cons (pv 5) pa_nil)))))) (fun _ _ _ _ _ => (pv 5)))))))), ?_⟩
    obtain ⟨z2, z4, r1, r6, g0, g3, _⟩ := id hz
    refine ⟨_, rfl, th, _, rfl, hth, rfl, _, _, rfl, _, _, rfl, _, _, rfl, rfl, ?_⟩
    refine ⟨by show 0 ≤ sizeLine; decide, fun q0 h0 => ⟨by show 1 ≤ sizeLine; decide, fun a0 ha0 => ?_⟩⟩
    have S1 : Same H (upd (upd H q0 (.tup [])) a0 (.lst [.ref q0])) := (same_new h0).trans (same_new ha0)
    have A0 : (upd (upd H q0 (.tup [])) a0 (.lst [.ref q0])) a0 = some (.lst [.ref q0]) := upd_same
    have Q0 : (upd (upd H q0 (.tup [])) a0 (.lst [.ref q0])) q0 = some (.tup []) := same_new ha0 _ _ upd_same
    have Ha0 : H a0 = none := freshS (same_new h0) ha0
    show gName 4 (V.ref a0) _ (upd (upd H q0 (.tup [])) a0 (.lst [.ref q0])) _
    generalize upd (upd H q0 (.tup [])) a0 (.lst [.ref q0]) = J0 at S1 A0 Q0 ⊢
    refine ⟨_, rfl, _, _, rfl, rfl, _, rfl, by omega, by omega, for_range (lo := 0) (n := (g + 1).toNat) (fun i σ J => ∃ (y2 : Option V) (R : Addr) (us : List V), σ = [some (.ref th), some (.int z), y2, some (.int g), some (.ref R), none, none] ∧ H R = none ∧ Same H J ∧ J R = some (.lst us) ∧ RowsAt K J us (allR z.toNat i)) ⟨_, a0, _, rfl, Ha0, S1, A0, .cons ⟨q0, rfl, SqT.of Q0⟩ .nil⟩ ?_ ?_⟩
    · rintro i σ J hi ⟨y2, R, us, rfl, HR, S, hR, pr⟩
      have l81 := allR_small hz i (by omega)
      have l82 := allR_small hz (i + 1) (by omega)
      have lus := paired_length pr
      obtain ⟨rows, erows⟩ : ∃ rows, allR z.toNat i = rows := ⟨_, rfl⟩
      have e1 : allR z.toNat (i + 1) = extR z.toNat rows := by rw [← erows]; rfl
      rw [e1] at l82
      rw [erows] at pr l81 lus
      refine ⟨_, rfl, R, rfl, ⟨_, SqL.of hR⟩, fun D hD => ?_⟩
      refine turns_it (walk_list (K := K) (a := R) (xs := us)) (fun k L => ∃ vs : List V, Same J L ∧ L D = some (.lst vs) ∧ RowsAt K L vs (extR z.toNat (rows.take k))) ⟨[], same_new hD, upd_same, .nil⟩ (fun k L _ ⟨_, SL, _⟩ => SqL.of (SL _ _ hR)) ?_ ?_
      · rintro m v L L' hm ⟨vs, SL, hL, pv⟩ ⟨rfl, hv⟩
        obtain ⟨row, hrow, q, rfl, sq⟩ := paired_nth pr hv
        have hlt : m < rows.length := by omega
        have erow : rows.take (m + 1) = rows.take m ++ [row] := by rw [List.take_add_one, hrow]; rfl
        have sub : (extR z.toNat (rows.take m)).length + z.toNat ≤ 81 := by
          have a := extR_len z.toNat (rows.take m)
          have b := extR_len z.toNat rows
          have c : (rows.take m).length = m := by rw [List.length_take]; omega
          rw [a, c]
          rw [b] at l82
          have d : (m + 1) * z.toNat ≤ rows.length * z.toNat := Nat.mul_le_mul_right _ (by omega)
          rw [Nat.succ_mul] at d
          omega
        refine ⟨rfl, ?_⟩
        unfold tYes
        refine iteT ⟨_, rfl, z, rfl, by omega, by omega, ?_⟩
        refine turns_it (walk_range (lo := 0) (n := z.toNat)) (fun j M => ∃ ws : List V, Same J M ∧ M D = some (.lst ws) ∧ RowsAt K M ws (extR z.toNat (rows.take m) ++ (List.range j).map fun h : Nat => row ++ [(h : Int)])) ⟨vs, SL, hL, by rw [List.range_zero, List.map_nil, List.append_nil]; exact pv⟩ (fun _ _ _ _ => trivial) ?_ ?_
        · rintro j x M M' hj ⟨ws, SM, hM, pw⟩ ⟨rfl, rfl⟩
          have lw := paired_length pw
          rw [List.length_append, List.length_map, List.length_range] at lw
          refine ⟨rfl, ?_⟩
          refine iteT ⟨_, rfl, _, rfl, by show 1 ≤ sizeLine; decide, fun t ht => ?_⟩
          have s1 : Same M' (upd M' t (.tup [.int (0 + (j : Int))])) := same_new ht
          have rl := (allR_mem (z := z.toNat) (n := i) (x := row) (by rw [erows]; exact List.mem_of_getElem? hrow)).1
          refine ⟨q, t, _, _, rfl, rfl, sameT (SM.trans s1) sq, SqT.of upd_same, Nat.le_trans (by rw [List.length_map, rl, List.length_singleton]; omega : _ ≤ 100) (by decide), fun t2 M2 e2 S2 => ?_⟩
          have S3 := SM.trans (s1.trans S2)
          have hM2 := (s1.trans S2) _ _ hM
          refine ⟨ws, hM2, Nat.lt_of_lt_of_le (by omega : ws.length < 100) (by decide), ws ++ [.ref t2], writeS S3 hD, upd_same, ?_⟩
          have e3 : extR z.toNat (rows.take m) ++ (List.range (j + 1)).map (fun h : Nat => row ++ [(h : Int)]) = (extR z.toNat (rows.take m) ++ (List.range j).map fun h : Nat => row ++ [(h : Int)]) ++ [row ++ [(j : Int)]] := by
            rw [List.range_succ, List.map_append, List.append_assoc]
            rfl
          rw [e3]
          refine paired_put ((pw.same (s1.trans S2)).put hM2) ⟨t2, rfl, sqT_upd ?_ hM2⟩
          have e5 : SqT K M2 t2 (row.map V.int ++ [V.int (0 + (j : Int))]) := e2
          rw [Int.zero_add] at e5
          rw [List.map_append]
          exact e5
        · rintro M ⟨ws, SM, hM, pw⟩
          refine ⟨ws, SM, hM, ?_⟩
          rw [erow, extR_append]
          have e4 : extR z.toNat [row] = (List.range z.toNat).map fun h : Nat => row ++ [(h : Int)] := by unfold extR; simp
          rw [e4]
          exact pw
      · rintro L ⟨vs, SL, hL, pv⟩
        rw [lus, List.take_length] at pv
        exact ⟨_, D, vs, rfl, freshS S hD, S.trans SL, hL, by rw [e1]; exact pv⟩
    · rintro σ J ⟨y2, R, us, rfl, HR, S, hR, pr⟩
      have hall : ∀ row ∈ allR z.toNat (g + 1).toNat, row.length = (g + 1).toNat ∧ ∀ x ∈ row, 0 ≤ x ∧ x < z := fun row hrow => by
        obtain ⟨a, b⟩ := allR_mem hrow
        exact ⟨a, fun x hx => by have := b x hx; omega⟩
      have l81 := allR_small hz _ (Nat.le_refl _)
      have lus := paired_length pr
      have eB : begR z r g = (allR z.toNat (g + 1).toNat).filter fun ns => keptB ns r := rfl
      rw [eB] at k
      generalize allR z.toNat (g + 1).toNat = rows at pr hall l81 lus k
      have hthJ := sameT S hth
      have hTJ := (Tabs.of_same S).tab hT
      refine ⟨_, rfl, R, rfl, ⟨_, SqL.of hR⟩, fun D hD => ?_⟩
      refine lc_list (K := K) (a := R) (xs := us) (fun i L => ∃ vs : List V, Grow J L ∧ L D = some (.lst vs) ∧ vs.length ≤ i ∧ RowsAt K L vs ((rows.take i).filter fun ns => keptB ns r)) ⟨[], Grow.new hD, upd_same, Nat.le_refl _, .nil⟩ (fun i L _ ⟨_, G, _⟩ => G.seq (SqL.of hR)) ?_ ?_
      · rintro i x L hi ⟨vs, G, hL, lv, pv⟩
        obtain ⟨row, hrow, q, rfl, sq⟩ := paired_nth pr hi
        have hil : i < us.length := (List.getElem?_eq_some_iff.mp hi).1
        obtain ⟨rl, rz⟩ := hall row (List.mem_of_getElem? hrow)
        have rne : row ≠ [] := fun e => by rw [e, List.length_nil] at rl; omega
        have ec : courseD z r (.tuple (row.map PyData.int)) = keptB row r := course_row rz rne
        refine ⟨rfl, ?_⟩
        refine ⟨_, rfl, _, rfl, th, .ref q, z, r, g, .tuple (row.map PyData.int), rfl, G.tup hthJ, .tup (G.tup sq) (ints_dp row), fun ds e => ?_, G.t.tab hTJ, fun L' G' => ⟨_, rfl, ?_⟩⟩
        · cases e
          rw [List.length_map, rl]
          omega
        rw [ec]
        have e6 : (rows.take (i + 1)).filter (fun ns => keptB ns r) = (rows.take i).filter (fun ns => keptB ns r) ++ if keptB row r = true then [row] else [] := by
          rw [List.take_add_one, hrow, List.filter_append]
          simp only [Option.toList_some, List.filter_cons, List.filter_nil]
        have hL' := G'.at hL
        refine ite2 (fun hk => ?_) (fun hk => ?_)
        · rw [if_pos hk] at e6
          refine ⟨_, rfl, vs, hL', Nat.lt_of_lt_of_le (by omega : vs.length < 100) (by decide), vs ++ [.ref q], (G.trans G').write hD, upd_same, by rw [List.length_append, List.length_singleton]; omega, ?_⟩
          rw [e6]
          exact paired_put ((pv.grow G').put hL') ⟨q, rfl, sqT_upd ((G.trans G').tup sq) hL'⟩
        · rw [if_neg hk, List.append_nil] at e6
          exact ⟨vs, G.trans G', hL', by omega, by rw [e6]; exact pv.grow G'⟩
      · rintro L ⟨vs, G, hL, lv, pv⟩
        rw [lus, List.take_length] at pv
        exact k D vs L ((Grow.of_same S).trans G) (freshS S hD) hL pv
end

/-! ### data stays as the state grows; as a list is changed -/
mutual
theorem growDp {K : PySem.W.Frag} {H J : Hp} (g : Grow H J) : ∀ (d : PyData) (v : V), Dp K H v d → Dp K J v d
  | .none, _, h => by cases h; exact .non
  | .bool b, _, h => by cases h; exact .bl b
  | .int i, _, h => by cases h; exact .int i
  | .str x, _, h => by cases h; exact .str x
  | .list ds, _, h => by
    cases h with
    | lst h1 h2 => exact .lst (g.seq h1) (growDpAll g ds _ h2)
  | .tuple ds, _, h => by
    cases h with
    | tup h1 h2 => exact .tup (g.tup h1) (growDpAll g ds _ h2)
  | .dict _, _, h => by cases h
theorem growDpAll {K : PySem.W.Frag} {H J : Hp} (g : Grow H J) : ∀ (ds : List PyData) (vs : List V), DpAll K H vs ds → DpAll K J vs ds
  | [], _, h => by cases h; exact .nil
  | d :: ds, _, h => by
    cases h with
    | cons h1 h2 => exact .cons (growDp g d _ h1) (growDpAll g ds _ h2)
end
mutual
theorem keyPut {K : PySem.W.Frag} {J : Hp} {D : Addr} {ys : List V} {o : HO} (hD : J D = some (.lst ys)) : ∀ (d : PyData) (v : V), isKeyD d = true → Dp K J v d → Dp K (upd J D o) v d
  | .int i, _, _, h => by cases h; exact .int i
  | .tuple ds, _, q, h => by
    cases h with
    | tup h1 h2 => exact .tup (sqT_upd h1 hD) (keyPutAll hD ds _ q h2)
  | .none, _, _, h => by cases h; exact .non
  | .bool _, _, q, _ => by cases q
  | .str _, _, q, _ => by cases q
  | .list _, _, q, _ => by cases q
  | .dict _, _, q, _ => by cases q
theorem keyPutAll {K : PySem.W.Frag} {J : Hp} {D : Addr} {ys : List V} {o : HO} (hD : J D = some (.lst ys)) : ∀ (ds : List PyData) (vs : List V), isKeyDs ds = true → DpAll K J vs ds → DpAll K (upd J D o) vs ds
  | [], _, _, h => by cases h; exact .nil
  | d :: ds, _, q, h => by
    simp only [isKeyDs, Bool.and_eq_true] at q
    cases h with
    | cons h1 h2 => exact .cons (keyPut hD d _ q.1 h1) (keyPutAll hD ds _ q.2 h2)
end
theorem keys_all {ds : List PyData} (h : ∀ d ∈ ds, isKeyD d = true) : isKeyDs ds = true := by
  induction ds with
  | nil => rfl
  | cons d ds ih =>
    simp only [isKeyDs, Bool.and_eq_true]
    exact ⟨h d List.mem_cons_self, ih fun x hx => h x (List.mem_cons_of_mem _ hx)⟩
theorem key_ints (ns : List Int) : isKeyDs (ns.map PyData.int) = true := keys_all fun d hd => by
  obtain ⟨x, _, rfl⟩ := List.mem_map.mp hd
  rfl

/-! ### how many moments ago the head changed -/
def agoI (ns : List Int) : Int := match (changesI ns).getLast? with
  | none => -1
  | some c => (ns.length : Int) - 1 - c
def sp_agoof (K : PySem.W.Frag) (tb : Addr) : Sp := fun vs H Q _ => ∃ (a : Addr) (ns : List Int), vs = [.ref a] ∧ SqT K H a (ns.map V.int) ∧ ns.length ≤ 4000 ∧ GxR.TabG H tb ∧ ∀ J, Grow H J → Q (.int (agoI ns)) J
section
variable {P : Program} {w : World} {K : PySem.W.Frag} {mg : Str → Option Value} {base : Heap}
theorem ok_agoof (T : Txt K mg) (TB : GxR.TabB base mg T.c_changes_of T.p_changes_of) : FnOk P w K mg base CX0 3 T.a_ago_of T.d_ago_of ["course"] (sp_agoof K T.p_changes_of) := by
  have G_changes_of : FnOk P w K mg base CX0 2 T.a_changes_of T.d_changes_of ["course"] (sp_changes K T.p_changes_of) := ok_changes T TB
  refine T.F_ago_of.ok sc_ago_of (fun vs H Q E h => ?_) (fun cdv A outer s H vs Q E hr h => ?_)
  · obtain ⟨a, ns, rfl, _⟩ := h
    rfl
  · obtain ⟨a, ns, rfl, hx, hl, hT, k⟩ := h
    refine ⟨_, (pss_cons (ps_set (i := 1) sc_ago_of.nd rfl (Or.inl rfl) (pe_call G_changes_of (hr.mono (by omega)) (by rfl) T.g_changes_of T.F_changes_of.kp T.b_changes_of .nil pass0 (pa_cons (pv 0) pa_nil)))
      (pss_one (ps_ret (pe_ifExp (pt_cmpR op_eq (pe_callB (id := "len") call_len_seq (by rfl) T.m_len (by decide +kernel) (pa_cons (pv 1) pa_nil)) pe_int (nomark _)) (pe_glob (v := .int (-1)) rfl T.g_NOT_CHANGED ⟨_, rfl⟩) (pe_op op_sub (pe_op op_sub (pe_callB (id := "len") call_len_seq (by rfl) T.m_len (by decide +kernel) (pa_cons (pv 0) pa_nil)) pe_int) (pe_ix ix_tup (pv 1) (pe_un un_neg pe_int) (fun _ _ => rfl))))))), ?_⟩
    have ll : (ns.map V.int).length = ns.length := List.length_map ..
    refine ⟨_, rfl, a, ns, rfl, hx, Nat.le_trans hl (by decide), hT, fun t J G ht => ?_⟩
    have kJ := k J G
    have eh : agoI ns = match (changesI ns).getLast? with
        | none => -1
        | some c => (ns.length : Int) - 1 - c := rfl
    rw [eh] at kJ
    generalize changesI ns = cs at ht kJ
    refine ⟨_, rfl, t, _, rfl, .inr (SqT.of ht), rfl, _, rfl, ?_⟩
    have lc : (cs.map V.int).length = cs.length := List.length_map ..
    rw [lc]
    cases ec : cs.getLast? with
    | none =>
      obtain rfl : cs = [] := by simpa using ec
      exact iteT kJ
    | some c =>
      rw [ec] at kJ
      have cne : cs.length ≠ 0 := fun z => by
        rw [List.eq_nil_of_length_eq_zero z] at ec
        cases ec
      rw [decide_eq_false (show ¬ V.int (cs.length : Int) = V.int 0 from fun e => cne (by have := V.int.inj e; omega))]
      have hl2 : (cs.map V.int).getLast? = some (.int c) := by rw [List.getLast?_map, ec]; rfl
      have hxJ := G.tup hx
      refine iteF ⟨_, rfl, a, _, rfl, .inr hxJ, _, _, rfl, rfl, _, rfl, 1, rfl, t, _, -1, _, rfl, rfl, SqT.of ht, atI_last hl2, _, _, rfl, rfl, ?_⟩
      rw [ll]
      exact kJ
end

/-! ### where heads and hold may turn to -/
/-- where (heads, hold) may turn to -/
def turnsK (z r : Int) (hs : List Int) (u : Int) : List (List Int × Int) :=
  if 0 < u then [(hs.headD 0 :: hs.take (hs.length - 1), u - 1)]
  else (List.range z.toNat).map fun h : Nat => ((h : Int) :: hs.take (hs.length - 1), if (h : Int) = hs.headD 0 then 0 else r - 1)
def turnD (p : List Int × Int) : PyData := .tuple [.tuple (p.1.map PyData.int), .int p.2]
def sp_turns (K : PySem.W.Frag) (tb : Addr) : Sp := fun vs H Q _ => ∃ (th a : Addr) (z r g u : Int) (hs : List Int), vs = [.ref th, .ref a, .int u] ∧ SqT K H th [.int z, .int r, .int g] ∧ 0 ≤ z ∧ z ≤ 9 ∧ SqT K H a (hs.map V.int) ∧ hs ≠ [] ∧ hs.length < 60 ∧ GxR.TabG H tb ∧
  ∀ (t : Addr) (us : List V) (J : Hp), Grow H J → SqT K J t us → DpAll K J us ((turnsK z r hs u).map turnD) → Q (.ref t) J
section
variable {P : Program} {w : World} {K : PySem.W.Frag} {mg : Str → Option Value} {base : Heap}
theorem ok_turns (T : Txt K mg) (TB : GxR.TabB base mg T.c_turns T.p_turns) : FnOk P w K mg base CX0 1 T.a_turns T.d_turns ["house", "heads", "hold"] (sp_turns K T.p_turns) := by
  refine Fun.okC T.F_turns T.h_turns sc_turns (fun vs H Q E h => ?_) (fun A outer s H vs Q E hr h => ?_)
  · obtain ⟨th, a, z, r, g, u, hs, rfl, _⟩ := h
    rfl
  · obtain ⟨th, a, z, r, g, u, hs, rfl, hth, z0, z9, ha, ne, l60, hT, k⟩ := h
    refine ⟨_, (pss_cons (ps_asg (pv 0) (pg_tup (by rfl) (pgs_cons (pg_name (i := 3) sc_turns.nd rfl (Or.inl rfl)) (pgs_cons (pg_name (i := 4) sc_turns.nd rfl (Or.inr rfl)) (pgs_cons (pg_name (i := 5) sc_turns.nd rfl (Or.inl rfl)) pgs_nil)))))
      (pss_cons (ps_set (i := 6) sc_turns.nd rfl (Or.inr rfl) (pe_slice sl_tupS (pv 1) po_none (po_some (pe_un un_neg pe_int))))
      (pss_cons (ps_if (pt_cmpR op_gt (pv 2) pe_int (nomark _))
        (pss_one (ps_ret (pe_tup (pa_cons (pe_tup (pa_cons (pe_op op_catS (pe_tup (pa_cons (pe_ix ix_tup (pv 1) pe_int (fun _ _ => rfl)) pa_nil)) (pv 6)) (pa_cons (pe_op op_sub (pv 2) pe_int) pa_nil))) pa_nil))))
        pss_nil)
      (pss_one (ps_ret (pe_tupO (c := T.c_turns) (T := T.p_turns) hr (by rfl) T.m_tuple TB rfl ⟨rfl, rfl, by decide +kernel, rfl, rfl, gen_free (by decide +kernel)⟩ (pe_callTy (T := "range") cr_rangeOne (by rfl) T.m_range (by decide +kernel) (pa_cons (pv 3) pa_nil)) (fun _ => rfl) rfl)))))), ?_⟩
    have ll : (hs.map V.int).length = hs.length := List.length_map ..
    have lpos : 0 < hs.length := List.length_pos_iff.mpr ne
    have cutI : cutV (hs.map V.int) none (some (-1)) = (hs.take (hs.length - 1)).map V.int := by rw [cut_init (by omega), ll, List.map_take]
    have at0 : atI (hs.map V.int) 0 = some (.int (hs.headD 0)) := by
      refine atI_nat (j := 0) ?_
      cases hs with
      | nil => exact absurd rfl ne
      | cons x r' => rfl
    have lo : (hs.take (hs.length - 1)).length < 60 := by rw [List.length_take]; omega
    have eK : turnsK z r hs u = if 0 < u then [(hs.headD 0 :: hs.take (hs.length - 1), u - 1)] else (List.range z.toNat).map fun h : Nat => ((h : Int) :: hs.take (hs.length - 1), if (h : Int) = hs.headD 0 then 0 else r - 1) := rfl
    rw [eK] at k
    generalize hs.take (hs.length - 1) = old at cutI lo k
    generalize hs.headD 0 = x0 at at0 k
    refine ⟨_, rfl, th, _, rfl, hth, rfl, _, _, rfl, _, _, rfl, _, _, rfl, rfl, ?_⟩
    refine ⟨_, rfl, 1, rfl, -1, rfl, a, _, rfl, ha, fun q J e S => ?_⟩
    rw [cutI] at e
    have haJ := sameT S ha
    have GJ := Grow.of_same S
    refine ⟨_, rfl, _, _, rfl, rfl, _, rfl, ite2 (fun hu => ?_) (fun hu => ?_)⟩
    · rw [if_pos (of_decide_eq_true hu)] at k
      refine ⟨_, rfl, a, _, 0, _, rfl, rfl, haJ, at0, by show 1 ≤ sizeLine; decide, fun q1 g1 => ?_⟩
      have s1 : Same J (upd J q1 (.tup [.int x0])) := same_new g1
      refine ⟨_, rfl, q1, q, _, _, rfl, rfl, SqT.of upd_same, sameT s1 e, Nat.le_trans (by rw [List.length_singleton, List.length_map]; omega : _ ≤ 100) (by decide), fun t1 J1 e1 S1 => ?_⟩
      refine ⟨_, rfl, _, _, rfl, rfl, by show 2 ≤ sizeLine; decide, fun t2 g2 => ⟨by show 1 ≤ sizeLine; decide, fun t3 g3 => ?_⟩⟩
      have S2 : Same J1 (upd (upd J1 t2 (.tup [.ref t1, .int (u - 1)])) t3 (.tup [.ref t2])) := (same_new g2).trans (same_new g3)
      have T2 : (upd (upd J1 t2 (.tup [.ref t1, .int (u - 1)])) t3 (.tup [.ref t2])) t2 = some (.tup [.ref t1, .int (u - 1)]) := same_new g3 _ _ upd_same
      refine k t3 _ _ (Grow.of_same (S.trans ((s1.trans S1).trans S2))) (SqT.of upd_same) (.cons (.tup (SqT.of T2) (.cons (.tup (sameT S2 e1) ?_) (.cons (.int _) .nil))) .nil)
      exact .cons (.int _) (ints_dp _)
    · rw [if_neg (fun h => hu (decide_eq_true h))] at k
      refine ⟨_, rfl, z, rfl, fun q2 g2 => ?_⟩
      have G2 : Grow J (upd J q2 (.rng 0 z)) := Grow.new g2
      have GH := GJ.trans G2
      have hR : (upd J q2 (.rng 0 z)) q2 = some (.rng 0 z) := upd_same
      refine ⟨(z - 0).toNat, fun i v => ∃ t, v = .int (0 + (i : Nat) * 1) t, fun _ => true, fun i => turnD ((i : Int) :: old, if (i : Int) = x0 then 0 else r - 1), Nat.le_trans (by omega : (z - 0).toNat ≤ 10) (by decide), GH.t.tab hT, fun pins s1 uv I1 ru => ?_, fun t vs H2 g3 hn h2 hd => ?_⟩
      · cases ru
        obtain ⟨ta, tb, tc, hRo⟩ := I1.hok q2 _ hR
        obtain ⟨ps, hP, _⟩ := GH.t.tab hT
        have hPo := I1.hok _ _ hP
        refine ⟨over_rng (I1.ok.hd rfl) hRo (small_one (by decide) (by decide) (by omega) (by omega)) hPo, ?_⟩
        obtain ⟨itO, rvO, isO, _⟩ := I1.tuple (G2.tup e)
        obtain ⟨itH, rvH, isH, _⟩ := I1.tuple (G2.tup haJ)
        obtain ⟨uO, cO, rO, hcO, hcellO⟩ := Inv.freeAt (i := 6) (x := "older") I1 rfl rfl rfl
        obtain ⟨uH, cH, rH, hcH, hcellH⟩ := Inv.freeAt (i := 1) (x := "heads") I1 rfl rfl rfl
        obtain ⟨uR, cR, rR, hcR, hcellR⟩ := Inv.freeAt (i := 4) (x := "rest") I1 rfl rfl rfl
        obtain rfl : uO = .ref q := rO
        obtain rfl : uH = .ref a := rH
        obtain ⟨tkR, rfl⟩ : ∃ t, uR = .int r t := rR
        have lO : itO.length = old.length := by have := rvO.length; rw [List.length_map] at this; omega
        intro cenv A' E' i v s2 m2 hv hsc hcl hA hns hm2 hk _ _
        obtain ⟨tv, rfl⟩ := hv
        have hkind : cenv.scope.kind = .function := by rw [hsc]
        have cellAt : ∀ {d : Addr} {v : Value}, s1.heap.IsCell d (some v) → s2.heap.IsCell d (some v) := fun {d v} hcl => by
          obtain ⟨o, ho, hd⟩ := hcl
          refine ⟨o, hk d o (fun z => ?_) ho, hd⟩
          rw [z, hPo] at ho
          cases ho
          cases hd
        have tupAt : ∀ {d : Addr} {its : Array Value}, IsTup s1.heap d its → IsTup s2.heap d its := fun {d its} ht => by
          obtain ⟨o, ho, hc1, n, hd⟩ := ht
          refine ⟨o, hk d o (fun z => ?_) ho, hc1, n, hd⟩
          rw [z, hPo] at ho
          cases ho
          cases hd
        have inO : cenv.cells.lookup ("older" : Str) = some cO := by rw [hcl]; exact clo_at hcO _ _ (.inl (by decide +kernel))
        have inH : cenv.cells.lookup ("heads" : Str) = some cH := by rw [hcl]; exact clo_at hcH _ _ (.inl (by decide +kernel))
        have inR : cenv.cells.lookup ("rest" : Str) = some cR := by rw [hcl]; exact clo_at hcR _ _ (.inl (by decide +kernel))
        have isO2 := tupAt isO
        have isH2 := tupAt isH
        have ei : (0 + (i : Nat) * 1 : Int) = (i : Int) := by omega
        have keepC : ∀ {s' : Shared} {d : Addr} {v : Value}, PySem.Keeps s2 s' → s2.heap.IsCell d (some v) → s'.heap.IsCell d (some v) := fun {s' d v} kk hc => by
          obtain ⟨o, ho, hd⟩ := hc
          exact ⟨o, keepsH kk _ _ ho, hd⟩
        have gO : ∀ s', PySem.Keeps s2 s' → ∀ p : Pos, GV P w A' cenv s' (.Name "older" p) (· = .ref q) := fun s' kk p => gv_free (x := "older") hkind (by rw [hsc]; decide +kernel) inO (keepC kk (cellAt hcellO)) rfl
        have gH : ∀ s', PySem.Keeps s2 s' → ∀ p : Pos, GV P w A' cenv s' (.Name "heads" p) (· = .ref a) := fun s' kk p => gv_free (x := "heads") hkind (by rw [hsc]; decide +kernel) inH (keepC kk (cellAt hcellH)) rfl
        have gR : ∀ s', PySem.Keeps s2 s' → ∀ p : Pos, GV P w A' cenv s' (.Name "rest" p) (IsI r) := fun s' kk p => gv_free (x := "rest") hkind (by rw [hsc]; decide +kernel) inR (keepC kk (cellAt hcellR)) ⟨_, rfl⟩
        have gN : ∀ s', PySem.Keeps s2 s' → ∀ p : Pos, GV P w A' cenv s' (.Name "head" p) (IsI (i : Int)) := fun s' kk p => gv_loc (x := "head") hkind (by rw [hsc]; decide +kernel) (hns.keeps (keepsH kk)) hm2 ⟨_, by rw [ei]⟩
        have gI : ∀ s', PySem.Keeps s2 s' → ∀ (p p2 p3 : Pos) (jj : Nat), GV P w A' cenv s' (.Subscript (.Name "heads" p) (.Constant (.int 0) jj p2) p3) (IsI x0) := fun s' kk p p2 p3 jj => gv_ix (gH s' kk p) gv_int (isH2.keeps (keepsH kk)) rvH (Nat.le_trans (by rw [ll]; omega : _ ≤ 100) (by decide)) at0 (fun u hu => hu) (fun _ _ => rfl)
        refine ⟨gt_nil rfl _, fun _ => ?_⟩
        refine wpAny_mono (gm_turn (gN s2 (GxR.keeps_refl _) _) (fun s' kk => gO s' kk _) isO2 (by omega) (fun s' kk => gv_if (gN s' kk _) (gI s' kk _ _ _ _) gv_int (gv_sub (gR s' kk _) gv_int)) rfl rfl E') (fun y s3 ⟨⟨q', r', tj, tu, ey, nqr, n1, n2, o1, o2⟩, k3⟩ => ⟨?_, k3⟩) fun _ _ z => z
        refine ⟨[(q', { cls := .type "tuple", data := .seq [Value.ref r', .int (if (i : Int) = x0 then 0 else r - 1) tu].toArray }), (r', { cls := .type "tuple", data := .seq (Value.int (i : Int) tj :: itO).toArray })],
          ⟨.ref q', [(q', [.ref r', .int (if (i : Int) = x0 then 0 else r - 1)]), (r', (V.int (i : Int) :: old.map V.int))], ey, .cons ⟨rfl, by show 2 ≤ sizeLine; decide, _, .cons rfl (.cons ⟨tu, rfl⟩ .nil), rfl, _, rfl⟩ (.cons ⟨rfl, ?_, _, .cons ⟨tj, rfl⟩ rvO, rfl, _, rfl⟩ .nil), fun H2 _ hp => ?_⟩, ?_, fun p hp => ?_⟩
        · show (V.int (i : Int) :: old.map V.int).length ≤ sizeLine
          exact Nat.le_trans (by rw [List.length_cons, List.length_map]; omega : _ ≤ 100) (by decide)
        · have z1 := hp _ List.mem_cons_self
          have z2 := hp _ (List.mem_cons_of_mem _ List.mem_cons_self)
          exact .tup (SqT.of z1) (.cons (.tup (SqT.of z2) (.cons (.int _) (ints_dp _))) (.cons (.int _) .nil))
        · simp [nqr]
        · rcases List.mem_cons.mp hp with e | e
          · rw [e]; exact ⟨n1, o1⟩
          · rw [List.mem_singleton.mp e]; exact ⟨n2, o2⟩
      · refine k t vs H2 (GH.trans g3) (SqT.of h2) ?_
        have e3 : (((List.range (z - 0).toNat).filter fun _ => true).map fun i : Nat => turnD ((i : Int) :: old, if (i : Int) = x0 then 0 else r - 1)) = ((List.range z.toNat).map fun h : Nat => ((h : Int) :: old, if (h : Int) = x0 then 0 else r - 1)).map turnD := by
          rw [List.filter_eq_self.mpr fun _ _ => rfl, List.map_map, show (z - 0).toNat = z.toNat by omega]
          rfl
        rw [← e3]
        exact hd
end

/-! ### what may have been: heads, hold, how long ago -/
abbrev Past : Type := List Int × Int × Int
def pastD (p : Past) : PyData := .tuple [.tuple (p.1.map PyData.int), .int p.2.1, .int p.2.2]
def pastI (g : Nat) (r : Int) (ns : List Int) : Past := (headsI ns (ns.length - 1) g, holdI r ns, agoI ns)
def nextP (z r : Int) (p : Past) : List Past := (turnsK z r p.1 p.2.1).map fun t => (t.1, t.2, if t.1.headD 0 ≠ p.1.headD 0 then 0 else if p.2.2 = -1 then -1 else p.2.2 + 1)
def unP : PyData → Past
  | .tuple [.tuple hs, .int u, .int a] => (hs.map intD, u, a)
  | _ => ([], 0, 0)
theorem unP_past (p : Past) : unP (pastD p) = p := by
  have e : (p.1.map PyData.int).map intD = p.1 := by
    rw [List.map_map]
    exact (List.map_congr_left fun x _ => rfl).trans (List.map_id _)
  unfold pastD unP
  simp only
  rw [e]
theorem dp_past {K : PySem.W.Frag} {H : Hp} {v : V} {p : Past} (h : Dp K H v (pastD p)) : ∃ b c : Addr, v = .ref b ∧ SqT K H b [.ref c, .int p.2.1, .int p.2.2] ∧ SqT K H c (p.1.map V.int) := by
  unfold pastD at h
  cases h with
  | tup h1 h2 =>
  cases h2 with
  | cons a h2 =>
  cases h2 with
  | cons b h2 =>
  cases h2 with
  | cons c h2 =>
  cases h2
  cases b
  cases c
  cases a with
  | tup a1 a2 =>
  rw [dp_ints a2] at a1
  exact ⟨_, _, rfl, h1, a1⟩
theorem past_key (p : Past) : isKeyD (pastD p) = true := by simp only [pastD, isKeyD, isKeyDs, key_ints, Bool.and_self]
theorem past_deep (p : Past) : (pastD p).depth ≤ 2 := by
  simp only [pastD, PyData.depth, PyData.depthAll, ints_deep]
  decide
theorem int_alike : ∀ (xs ys : List Int), xs.length = ys.length → PySem.W.alikeAll (xs.map PyData.int) (ys.map PyData.int) = true
  | [], [], _ => by simp [PySem.W.alikeAll]
  | [], _ :: _, h => by simp at h
  | _ :: _, [], h => by simp at h
  | x :: xs, y :: ys, h => by
    have ih := int_alike xs ys (by simpa using h)
    simp [PySem.W.alikeAll, PySem.W.alike, ih]
theorem past_alike {p q : Past} (h : p.1.length = q.1.length) : PySem.W.alike (pastD p) (pastD q) = true := by
  have := int_alike p.1 q.1 h
  simp only [pastD, PySem.W.alike, PySem.W.alikeAll, this, Bool.and_self]
def toldB (q : Int × Int) (hs : List Int) : Bool := (decide (q.1 = -1) && decide (q.2 = -1)) || decide (q.2 ∈ ahead q.1 hs)
def sp_pfirst (K : PySem.W.Frag) (tb tb2 : Addr) : Sp := fun vs H Q _ => ∃ (th : Addr) (z r : Int) (g : Nat), vs = [.ref th] ∧ SqT K H th [.int z, .int r, .int (g : Int)] ∧ HouseOf 81 z r (g : Int) ∧ GxR.TabG H tb ∧ GxR.TabG H tb2 ∧
  ∀ (a : Addr) (us : List V) (J : Hp), Grow H J → J a = some (.lst us) → DpAll K J us (((begR z r (g : Int)).map (pastI g r)).map pastD) → Q (.ref a) J
def sp_agolater : Sp := fun vs H Q _ => ∃ (a : Int) (b : Bool), vs = [.int a, .bl b] ∧ Q (.int (if b = true then 0 else if a = -1 then -1 else a + 1)) H
def sp_plater (K : PySem.W.Frag) (w : World) (tb : Addr) : Sp := fun vs H Q _ => ∃ (th a : Addr) (z r : Int) (g : Nat) (us : List V) (ps : List Past), vs = [.ref th, .ref a] ∧ SqT K H th [.int z, .int r, .int (g : Int)] ∧ 0 ≤ z ∧ z ≤ 9 ∧ g ≤ 3 ∧ H a = some (.lst us) ∧ DpAll K H us (ps.map pastD) ∧ (∀ p ∈ ps, p.1.length = g + 1) ∧ ps.length ≤ 1000 ∧ GxR.TabG H tb ∧
  (∀ D : List Past, D.Nodup → (∀ d ∈ D, d ∈ ps.flatMap (nextP z r)) → D.length < 299) ∧
  ∀ (l : Addr) (ws : List V) (out : List Past) (J : Hp), Grow H J → J l = some (.lst ws) → DpAll K J ws (out.map pastD) → out.Nodup → (∀ p, p ∈ out ↔ p ∈ ps.flatMap (nextP z r)) → Q (.ref l) J
def sp_mbt (K : PySem.W.Frag) : Sp := fun vs H Q _ => ∃ (a b : Addr) (hs : List Int) (q : Int × Int), vs = [.ref a, .ref b] ∧ SqT K H a (hs.map V.int) ∧ hs.length < 60 ∧ SqT K H b [.int q.1, .int q.2] ∧ ∀ J, Same H J → Q (.bl (toldB q hs)) J
section
variable {P : Program} {w : World} {K : PySem.W.Frag} {mg : Str → Option Value} {base : Heap}
theorem ok_agolater (T : Txt K mg) : FnOk P w K mg base CX0 1 T.a_ago_later T.d_ago_later ["ago", "changes"] sp_agolater := by
  refine T.F_ago_later.ok sc_ago_later (fun vs H Q E h => ?_) (fun cdv A outer s H vs Q E hr h => ?_)
  · obtain ⟨a, b, rfl, _⟩ := h
    rfl
  · obtain ⟨a, b, rfl, k⟩ := h
    refine ⟨_, (pss_cons (ps_if (pt_val (pv 1))
        (pss_one (ps_ret pe_int))
        pss_nil)
      (pss_one (ps_ret (pe_ifExp (pt_cmpR op_eq (pv 0) (pe_glob (v := .int (-1)) rfl T.g_NOT_CHANGED ⟨_, rfl⟩) (nomark _)) (pe_glob (v := .int (-1)) rfl T.g_NOT_CHANGED ⟨_, rfl⟩) (pe_op op_add (pv 0) pe_int))))), ?_⟩
    refine ⟨_, rfl, b, rfl, ?_⟩
    cases b with
    | true =>
      rw [if_pos rfl] at k
      exact iteT k
    | false =>
      rw [if_neg Bool.false_ne_true] at k
      refine iteF ⟨_, rfl, rfl, _, rfl, ?_⟩
      by_cases e : a = -1
      · rw [if_pos e] at k
        rw [decide_eq_true (show V.int a = V.int (-1) by rw [e])]
        exact iteT k
      · rw [if_neg e] at k
        rw [decide_eq_false (show ¬ V.int a = V.int (-1) from fun z => e (V.int.inj z))]
        exact iteF ⟨_, rfl, _, _, rfl, rfl, k⟩
theorem ok_mbt (T : Txt K mg) : FnOk P w K mg base CX0 2 T.a_may_be_told T.d_may_be_told ["heads", "pair"] (sp_mbt K) := by
  have G_named_by : FnOk P w K mg base CX0 1 T.a_named_by T.d_named_by ["heads", "server"] (sp_named K) := ok_named T
  refine T.F_may_be_told.ok sc_may_be_told (fun vs H Q E h => ?_) (fun cdv A outer s H vs Q E hr h => ?_)
  · obtain ⟨a, b, hs, q, rfl, _⟩ := h
    rfl
  · obtain ⟨a, b, hs, q, rfl, ha, lh, hb, k⟩ := h
    refine ⟨_, (pss_cons (ps_asg (pv 1) (pg_tup (by rfl) (pgs_cons (pg_name (i := 2) sc_may_be_told.nd rfl (Or.inl rfl)) (pgs_cons (pg_name (i := 3) sc_may_be_told.nd rfl (Or.inl rfl)) pgs_nil))))
      (pss_one (ps_ret (pe_or (pe_cmpR (op_eqD hr.units) (pv 1) (pe_glob (v := .ref T.a_NONE_ASKED) rfl T.g_NONE_ASKED rfl) (nomark _)) (pe_one (pe_cmpR op_in_seq (pv 3) (pe_call G_named_by (hr.mono (by omega)) (by rfl) T.g_named_by T.F_named_by.kp T.b_named_by .nil pass0 (pa_cons (pv 0) (pa_cons (pv 2) pa_nil))) (by rfl))))))), ?_⟩
    refine ⟨_, rfl, b, _, rfl, hb, rfl, _, _, rfl, _, _, rfl, rfl, ?_⟩
    have qc : SqT K H T.a_NONE_ASKED [.int (-1), .int (-1)] := sq_any T.q_NONE_ASKED
    refine ⟨_, rfl, .tuple [.int q.1, .int q.2], .tuple [.int (-1), .int (-1)], .tup hb (.cons (.int _) (.cons (.int _) .nil)), .tup qc (.cons (.int _) (.cons (.int _) .nil)), pair_shaped, pair_shaped, ?_⟩
    rw [two_eqv]
    refine ⟨_, rfl, ?_⟩
    have eT : toldB q hs = ((decide (q.1 = -1) && decide (q.2 = -1)) || decide (q.2 ∈ ahead q.1 hs)) := rfl
    rw [eT] at k
    cases hb : (decide (q.1 = -1) && decide (q.2 = -1)) with
    | true =>
      rw [hb, Bool.true_or] at k
      exact iteT (k H (Same.refl H))
    | false =>
      rw [hb, Bool.false_or] at k
      refine iteF ?_
      refine ⟨_, rfl, _, rfl, _, rfl, a, q.1, hs, rfl, ha, lh, fun out t J so lo S ht => ?_⟩
      refine ⟨t, _, rfl, .inr (SqT.of ht), rfl, flat_ints _, ?_⟩
      rw [if_neg (by decide), inV_ints]
      have e : out.contains q.2 = decide (q.2 ∈ ahead q.1 hs) := by rw [Bool.eq_iff_iff, List.contains_iff_mem, decide_eq_true_iff]; exact so.2 q.2
      rw [e]
      exact k J S
theorem ok_pfirst (T : Txt K mg) (TB : GxR.TabB base mg T.c_changes_of T.p_changes_of) (TB2 : GxR.TabB base mg T.c_heads_back T.p_heads_back) : FnOk P w K mg base CX0 5 T.a_pasts_at_first T.d_pasts_at_first ["house"] (sp_pfirst K T.p_changes_of T.p_heads_back) := by
  have G_heads_back : FnOk P w K mg base CX0 2 T.a_heads_back T.d_heads_back ["house", "course", "moment"] (sp_heads K T.p_heads_back) := ok_heads T TB2
  have G_hold_of : FnOk P w K mg base CX0 3 T.a_hold_of T.d_hold_of ["house", "course"] (sp_holdof K T.p_changes_of) := ok_holdof T TB
  have G_ago_of : FnOk P w K mg base CX0 3 T.a_ago_of T.d_ago_of ["course"] (sp_agoof K T.p_changes_of) := ok_agoof T TB
  have G_beginnings : FnOk P w K mg base CX0 4 T.a_beginnings T.d_beginnings ["house"] (sp_begin K T.p_changes_of) := ok_begin T TB
  refine T.F_pasts_at_first.ok sc_pasts_at_first (fun vs H Q E h => ?_) (fun cdv A outer s H vs Q E hr h => ?_)
  · obtain ⟨th, z, r, g, rfl, _⟩ := h
    rfl
  · obtain ⟨th, z, r, gn, rfl, hth, hz, hT, hT2, k⟩ := h
    refine ⟨_, (pss_cons (ps_set (i := 1) sc_pasts_at_first.nd rfl (Or.inr rfl) (pe_ix ix_tup (pv 0) pe_int (fun _ _ => rfl)))
      (pss_one (ps_ret (pe_lc (own := [("course", 2)]) (g := gName 2) (by rfl) sc_pasts_at_first.nd (pi_list (pe_call G_beginnings (hr.mono (by omega)) (by rfl) T.g_beginnings T.F_beginnings.kp T.b_beginnings .nil pass0 (pa_cons (pv 0) pa_nil))) (blkOk_by (own := [("course", 2)]) (N := ["house", "lag", "course"]) (sc := defScope s_pasts_at_first) (by decide +kernel)) (fun _ _ _ _ _ => (pg_name (i := 2) sc_pasts_at_first.nd rfl (Or.inl rfl))) (fun _ _ _ _ _ => pts_nil) (fun _ _ _ _ _ => (pe_tup (pa_cons (pe_call G_heads_back (hr.mono (by omega)) (by rfl) T.g_heads_back T.F_heads_back.kp T.b_heads_back .nil pass0 (pa_cons (pv 0) (pa_cons (pv 2) (pa_cons (pv 1) pa_nil)))) (pa_cons (pe_call G_hold_of (hr.mono (by omega)) (by rfl) T.g_hold_of T.F_hold_of.kp T.b_hold_of .nil pass0 (pa_cons (pv 0) (pa_cons (pv 2) pa_nil))) (pa_cons (pe_call G_ago_of (hr.mono (by omega)) (by rfl) T.g_ago_of T.F_ago_of.kp T.b_ago_of .nil pass0 (pa_cons (pv 2) pa_nil)) pa_nil))))))))), ?_⟩
    obtain ⟨z2, z4, r1, r6, g0, g3, _⟩ := id hz
    refine ⟨_, rfl, th, _, 2, _, rfl, rfl, hth, rfl, ?_⟩
    refine ⟨_, rfl, th, z, r, (gn : Int), rfl, hth, hz, hT, fun a us J G Ha hJa pr => ?_⟩
    have hB : ∀ row ∈ begR z r (gn : Int), row.length = gn + 1 := fun row hrow => by
      have := (allR_mem (List.mem_filter.mp hrow).1).1
      omega
    have lB : (begR z r (gn : Int)).length ≤ 81 := Nat.le_trans (List.length_filter_le _ _) (allR_small hz _ (Nat.le_refl _))
    generalize begR z r (gn : Int) = rows at pr hB lB k
    have lus := paired_length pr
    refine ⟨a, rfl, ⟨_, SqL.of hJa⟩, fun D hD => ?_⟩
    refine lc_list (K := K) (a := a) (xs := us) (fun i L => ∃ vs : List V, Grow J L ∧ L D = some (.lst vs) ∧ vs.length = i ∧ DpAll K L vs (((rows.take i).map (pastI gn r)).map pastD)) ⟨[], Grow.new hD, upd_same, rfl, .nil⟩ (fun i L _ ⟨_, GL, _⟩ => GL.seq (SqL.of hJa)) ?_ ?_
    · rintro i x L hi ⟨vs, GL, hL, lv, dv⟩
      obtain ⟨row, hrow, q, rfl, sq⟩ := paired_nth pr hi
      have hil : i < us.length := (List.getElem?_eq_some_iff.mp hi).1
      have rl := hB row (List.mem_of_getElem? hrow)
      have GH := G.trans GL
      refine ⟨rfl, ?_⟩
      unfold tYes
      refine iteT ?_
      refine ⟨_, rfl, _, rfl, _, rfl, th, q, z, r, gn, gn, row, rfl, GH.tup hth, GL.tup sq, Nat.le_refl _, by omega, by omega, GH.t.tab hT2, fun t L1 G1 ht => ?_⟩
      have GH1 := GH.trans G1
      refine ⟨_, rfl, _, rfl, th, q, z, r, (gn : Int), row, rfl, GH1.tup hth, (GL.trans G1).tup sq, by omega, GH1.t.tab hT, fun L2 G2 => ?_⟩
      have GH2 := GH1.trans G2
      refine ⟨_, rfl, q, row, rfl, ((GL.trans G1).trans G2).tup sq, by omega, GH2.t.tab hT, fun L2' G2' => ?_⟩
      refine ⟨by show 3 ≤ sizeLine; decide, fun t3 ht3 => ?_⟩
      have ht2 := (G2.trans G2').at ht
      rw [show gn = row.length - 1 by omega] at ht2
      have G3 : Grow L2' (upd L2' t3 (.tup [.ref t, .int (holdI r row), .int (agoI row)])) := Grow.new ht3
      have hT3 : (upd L2' t3 (.tup [.ref t, .int (holdI r row), .int (agoI row)])) t3 = some (.tup [.ref t, .int (holdI r row), .int (agoI row)]) := upd_same
      have ht3' := G3.at ht2
      show ∃ acc, (upd L2' t3 (.tup [.ref t, .int (holdI r row), .int (agoI row)])) D = _ ∧ _
      generalize upd L2' t3 (.tup [.ref t, .int (holdI r row), .int (agoI row)]) = L3 at G3 hT3 ht3' ⊢
      have GL3 := ((G1.trans G2).trans G2').trans G3
      have hL3 := GL3.at hL
      have eT : ((rows.take (i + 1)).map (pastI gn r)).map pastD = ((rows.take i).map (pastI gn r)).map pastD ++ [pastD (pastI gn r row)] := by
        rw [List.take_add_one, hrow, List.map_append, List.map_append]
        rfl
      have dn : Dp K L3 (.ref t3) (pastD (pastI gn r row)) := by
        refine .tup (SqT.of hT3) (.cons (.tup (SqT.of ht3') ?_) (.cons (.int _) (.cons (.int _) .nil)))
        have e : headsI row (row.length - 1) (row.length - 1) = headsI row (row.length - 1) gn := by rw [show row.length - 1 = gn by omega]
        rw [e]
        exact ints_dp _
      refine ⟨vs, hL3, Nat.lt_of_lt_of_le (by omega : vs.length < 100) (by decide), vs ++ [.ref t3], (GL.trans GL3).write hD, upd_same, by rw [List.length_append, List.length_singleton, lv], ?_⟩
      rw [eT]
      refine dpAll_append (keyPutAll hL3 _ _ (keys_all fun d hd => ?_) (growDpAll GL3 _ _ dv)) (.cons (keyPut hL3 _ _ (past_key _) dn) .nil)
      obtain ⟨p, _, rfl⟩ := List.mem_map.mp hd
      exact past_key p
    · rintro L ⟨vs, GL, hL, lv, dv⟩
      rw [lus, List.take_length] at dv
      exact k D vs L (G.trans GL) hL dv
end

/-! ### a moment behind these -/
theorem flat_many {α β : Type} {f : α → List β} {b : Nat} : ∀ {l : List α}, (∀ x ∈ l, (f x).length ≤ b) → (l.flatMap f).length ≤ b * l.length
  | [], _ => by simp
  | x :: l, h => by
    have h1 := h x List.mem_cons_self
    have h2 := flat_many (l := l) fun y hy => h y (List.mem_cons_of_mem _ hy)
    rw [List.flatMap_cons, List.length_append, List.length_cons, Nat.mul_succ]
    omega
theorem dp_turn {K : PySem.W.Frag} {H : Hp} {v : V} {q : List Int × Int} (h : Dp K H v (turnD q)) : ∃ b c : Addr, v = .ref b ∧ SqT K H b [.ref c, .int q.2] ∧ SqT K H c (q.1.map V.int) := by
  unfold turnD at h
  cases h with
  | tup h1 h2 =>
  cases h2 with
  | cons a h2 =>
  cases h2 with
  | cons b h2 =>
  cases h2
  cases b
  cases a with
  | tup a1 a2 =>
  rw [dp_ints a2] at a1
  exact ⟨_, _, rfl, h1, a1⟩
theorem turn_key (q : List Int × Int) : isKeyD (turnD q) = true := by simp only [turnD, isKeyD, isKeyDs, key_ints, Bool.and_self]
theorem unP_back {E : List PyData} (h : ∀ d ∈ E, ∃ p, d = pastD p) : (E.map unP).map pastD = E := by
  rw [List.map_map]
  refine (List.map_congr_left fun d hd => ?_).trans (List.map_id _)
  obtain ⟨p, rfl⟩ := h d hd
  show pastD (unP (pastD p)) = _
  rw [unP_past]
  rfl
theorem at_head {l : List Int} (h : l ≠ []) : atI (l.map V.int) 0 = some (.int (l.headD 0)) := by
  refine atI_nat (j := 0) ?_
  cases l with
  | nil => exact absurd rfl h
  | cons x r' => rfl
theorem turnsK_len {z r u : Int} {hs : List Int} (h : hs ≠ []) {q : List Int × Int} (m : q ∈ turnsK z r hs u) : q.1.length = hs.length := by
  have lp : 0 < hs.length := List.length_pos_iff.mpr h
  unfold turnsK at m
  split at m
  · rw [List.mem_singleton.mp m]
    show (_ :: hs.take (hs.length - 1)).length = _
    rw [List.length_cons, List.length_take]
    omega
  · obtain ⟨i, _, rfl⟩ := List.mem_map.mp m
    show (_ :: hs.take (hs.length - 1)).length = _
    rw [List.length_cons, List.length_take]
    omega
theorem turnsK_many {z r u : Int} {hs : List Int} (z0 : 0 ≤ z) (z9 : z ≤ 9) : (turnsK z r hs u).length ≤ 9 := by
  unfold turnsK
  split
  · simp
  · rw [List.length_map, List.length_range]
    omega
section
variable {P : Program} {w : World} {K : PySem.W.Frag} {mg : Str → Option Value} {base : Heap}
theorem ok_plater (T : Txt K mg) (TB : GxR.TabB base mg T.c_turns T.p_turns) : FnOk P w K mg base CX0 2 T.a_pasts_later T.d_pasts_later ["house", "pasts"] (sp_plater K w T.p_turns) := by
  have G_turns : FnOk P w K mg base CX0 1 T.a_turns T.d_turns ["house", "heads", "hold"] (sp_turns K T.p_turns) := ok_turns T TB
  have G_ago_later : FnOk P w K mg base CX0 1 T.a_ago_later T.d_ago_later ["ago", "changes"] sp_agolater := ok_agolater T
  refine T.F_pasts_later.ok sc_pasts_later (fun vs H Q E h => ?_) (fun cdv A outer s H vs Q E hr h => ?_)
  · obtain ⟨th, a, z, r, g, us, ps, rfl, _⟩ := h
    rfl
  · obtain ⟨th, a, z, r, g, us, ps, rfl, hth, z0, z9, g3, ha, pu, pl, l1000, hT, few, k⟩ := h
    refine ⟨_, (pss_one (ps_ret (pe_callB (id := "sorted") (cr_sortedK rfl (hu64 hr)) (by rfl) T.m_sorted (by decide +kernel) (pa_cons (pe_callTy (T := "set") (cr_setW rfl (hu64 hr)) (by rfl) T.m_set (by decide +kernel) (pa_cons (pe_lc2 (own := [("heads", 2), ("hold", 3), ("ago", 4), ("row", 5), ("stays", 6)]) (vs1 := [5, 6]) (g := gTup K 3 (gCons (gName 2) (gCons (gName 3) (gCons (gName 4) gNil)))) (g1 := gTup K 2 (gCons (gName 5) (gCons (gName 6) gNil))) (by rfl) sc_pasts_later.nd (pi_list (pv 1)) (blkOk_by (own := [("heads", 2), ("hold", 3), ("ago", 4), ("row", 5), ("stays", 6)]) (N := ["house", "pasts", "heads", "hold", "ago", "row", "stays"]) (sc := defScope s_pasts_later) (by decide +kernel)) (by decide) (fun _ _ _ _ _ => (pg_tripK K (i := 2) (j := 3) (l := 4) rfl rfl sc_pasts_later.nd rfl (Or.inl rfl) rfl (Or.inl rfl) rfl (Or.inl rfl))) (fun _ _ _ _ _ => pts_nil) (fun _ _ _ _ _ => (pi_tupK K rfl (pe_call G_turns (hr.mono (by omega)) (by rfl) T.g_turns T.F_turns.kp T.b_turns .nil pass0 (pa_cons (pv 0) (pa_cons (pv 2) (pa_cons (pv 3) pa_nil)))))) (fun _ _ _ _ _ => (pg_pairK K (i := 5) (j := 6) rfl rfl sc_pasts_later.nd rfl (Or.inl rfl) rfl (Or.inl rfl))) (fun _ _ _ _ _ => pts_nil) (fun _ _ _ _ _ => (pe_tup (pa_cons (pv 5) (pa_cons (pv 6) (pa_cons (pe_call G_ago_later (hr.mono (by omega)) (by rfl) T.g_ago_later T.F_ago_later.kp T.b_ago_later .nil pass0 (pa_cons (pv 4) (pa_cons (pe_cmpR op_ne (pe_ix (ixTK K rfl) (pv 5) pe_int (fun _ _ => rfl)) (pe_ix (ixTK K rfl) (pv 2) pe_int (fun _ _ => rfl)) (nomark _)) pa_nil))) pa_nil)))))) pa_nil)) pa_nil)))), ?_⟩
    have lus : us.length = ps.length := by
      have := dpAll_len pu
      rw [List.length_map] at this
      exact this
    have hG0 : ∀ L, Grow H L → GxR.TabG L T.p_turns := fun L G => G.t.tab hT
    refine ⟨_, rfl, a, rfl, ⟨_, SqL.of ha⟩, fun D hD => ?_⟩
    refine turns_it (walk_list (K := K) (a := a) (xs := us)) (fun k L => ∃ ks : List (PyData × Addr), Grow H L ∧ L D = some (.lst (ks.map fun p => V.ref p.2)) ∧ ks.map Prod.fst = ((ps.take k).flatMap (nextP z r)).map pastD ∧ ∀ p ∈ ks, Dp K L (.ref p.2) p.1) ⟨[], Grow.new hD, upd_same, rfl, fun p hp => absurd hp List.not_mem_nil⟩ (fun k L _ ⟨_, GL, _⟩ => GL.seq (SqL.of ha)) ?_ ?_
    · rintro m v L L' hm ⟨ks, GL, hL, ek, dk⟩ ⟨rfl, hv⟩
      obtain ⟨d, hd, dv0⟩ := dpAll_get pu hv
      rw [List.getElem?_map] at hd
      obtain ⟨p, hp, rfl⟩ := Option.map_eq_some_iff.mp hd
      obtain ⟨b, c, rfl, hb, hc⟩ := dp_past (growDp GL _ _ dv0)
      have pm : p ∈ ps := List.mem_of_getElem? hp
      have pn := pl p pm
      have pne : p.1 ≠ [] := fun e => by rw [e, List.length_nil] at pn; omega
      have GL' := GL
      refine ⟨b, _, rfl, hb, rfl, _, _, rfl, _, _, rfl, _, _, rfl, rfl, ?_⟩
      refine ⟨rfl, ?_⟩
      unfold tYes
      refine iteT ⟨_, rfl, _, rfl, _, rfl, th, c, z, r, (g : Int), p.2.1, p.1, rfl, GL.tup hth, z0, z9, hc, pne, by omega, hG0 _ GL, fun t ts M GM ht dt => ?_⟩
      have GHM := GL.trans GM
      have hM := GM.at hL
      have dkM : ∀ q ∈ ks, Dp K M (.ref q.2) q.1 := fun q hq => growDp GM _ _ (dk q hq)
      have lts := dpAll_len dt
      rw [List.length_map] at lts
      refine ⟨t, rfl, ⟨_, ht⟩, ?_⟩
      have er : ps.take (m + 1) = ps.take m ++ [p] := by rw [List.take_add_one, hp]; rfl
      refine turns_it (walk_tup (K := K) (a := t) (xs := ts)) (fun j N => ∃ ls : List (PyData × Addr), Grow H N ∧ SqT K N t ts ∧ DpAll K N ts ((turnsK z r p.1 p.2.1).map turnD) ∧ SqT K N c (p.1.map V.int) ∧ N D = some (.lst ((ks ++ ls).map fun p => V.ref p.2)) ∧ ls.map Prod.fst = ((nextP z r p).take j).map pastD ∧ ∀ q ∈ ks ++ ls, Dp K N (.ref q.2) q.1) ⟨[], GHM, ht, dt, GM.tup hc, by rw [List.append_nil]; exact hM, rfl, by rw [List.append_nil]; exact dkM⟩ (fun _ _ _ ⟨_, _, htN, _⟩ => htN) ?_ ?_
      · rintro j x N N' hj ⟨ls, GN, htN, dtN, hcN, hN, el, dl⟩ ⟨rfl, hx⟩
        obtain ⟨d2, hd2, dx0⟩ := dpAll_get dtN hx
        rw [List.getElem?_map] at hd2
        obtain ⟨q, hq, rfl⟩ := Option.map_eq_some_iff.mp hd2
        have qm : q ∈ turnsK z r p.1 p.2.1 := List.mem_of_getElem? hq
        have ql := turnsK_len pne qm
        have qne : q.1 ≠ [] := fun e => by rw [e, List.length_nil] at ql; omega
        obtain ⟨b2, c2, rfl, hb2, hc2⟩ := dp_turn dx0
        refine ⟨b2, _, rfl, hb2, rfl, _, _, rfl, _, _, rfl, rfl, ?_⟩
        refine ⟨rfl, ?_⟩
        refine iteT ⟨_, rfl, _, rfl, _, rfl, ?_⟩
        refine ⟨_, rfl, c2, _, 0, _, rfl, rfl, hc2, at_head qne, ?_⟩
        refine ⟨_, rfl, c, _, 0, _, rfl, rfl, hcN, at_head pne, ?_⟩
        refine ⟨rfl, _, _, rfl, ?_⟩
        refine ⟨by show 3 ≤ sizeLine; decide, fun t3 ht3 => ?_⟩
        have e1 : (if (!decide (V.int (q.1.headD 0) = V.int (p.1.headD 0))) = true then (0 : Int) else if p.2.2 = -1 then -1 else p.2.2 + 1) = (if q.1.headD 0 ≠ p.1.headD 0 then 0 else if p.2.2 = -1 then -1 else p.2.2 + 1) := by
          by_cases e : q.1.headD 0 = p.1.headD 0 <;> simp [e]
        rw [e1]
        have hn : (nextP z r p)[j]? = some (q.1, q.2, if q.1.headD 0 ≠ p.1.headD 0 then 0 else if p.2.2 = -1 then -1 else p.2.2 + 1) := by
          unfold nextP
          rw [List.getElem?_map, hq]
          rfl
        have en : (nextP z r p).take (j + 1) = (nextP z r p).take j ++ [(q.1, q.2, if q.1.headD 0 ≠ p.1.headD 0 then 0 else if p.2.2 = -1 then -1 else p.2.2 + 1)] := by rw [List.take_add_one, hn]; rfl
        generalize (if q.1.headD 0 ≠ p.1.headD 0 then (0 : Int) else if p.2.2 = -1 then -1 else p.2.2 + 1) = ag at en ⊢
        have S3 : Grow N' (upd N' t3 (.tup [.ref c2, .int q.2, .int ag])) := Grow.new ht3
        have T3 : (upd N' t3 (.tup [.ref c2, .int q.2, .int ag])) t3 = some (.tup [.ref c2, .int q.2, .int ag]) := upd_same
        show ∃ acc, (upd N' t3 (.tup [.ref c2, .int q.2, .int ag])) D = _ ∧ _
        generalize upd N' t3 (.tup [.ref c2, .int q.2, .int ag]) = N3 at S3 T3 ⊢
        have hN3 := S3.at hN
        have dn : Dp K N3 (.ref t3) (pastD (q.1, q.2, ag)) := .tup (SqT.of T3) (.cons (.tup (S3.tup hc2) (ints_dp _)) (.cons (.int _) (.cons (.int _) .nil)))
        have lk : ks.length ≤ 9 * 1000 := by
          have := congrArg List.length ek
          rw [List.length_map, List.length_map] at this
          rw [this]
          refine Nat.le_trans (flat_many (b := 9) fun x _ => ?_) (Nat.mul_le_mul_left 9 (Nat.le_trans (by rw [List.length_take]; omega : _ ≤ ps.length) l1000))
          simp only [nextP, List.length_map]
          exact turnsK_many z0 z9
        have ll : ls.length ≤ 9 := by
          have := congrArg List.length el
          rw [List.length_map, List.length_map, List.length_take] at this
          have h9 : (nextP z r p).length ≤ 9 := by
            simp only [nextP, List.length_map]
            exact turnsK_many z0 z9
          omega
        refine ⟨_, hN3, Nat.lt_of_lt_of_le (by rw [List.length_map, List.length_append]; omega : _ < 10000) (by decide), ls ++ [(pastD (q.1, q.2, ag), t3)], (GN.trans S3).write hD, sqT_upd (S3.tup htN) hN3, keyPutAll hN3 _ _ (keys_all fun d hd => ?_) (growDpAll S3 _ _ dtN), sqT_upd (S3.tup hcN) hN3, ?_, ?_, fun o ho => ?_⟩
        · obtain ⟨y, _, rfl⟩ := List.mem_map.mp hd
          exact turn_key y
        · rw [upd_same, ← List.append_assoc, List.map_append (l₁ := ks ++ ls)]
          rfl
        · rw [List.map_append, el, en, List.map_append]
          rfl
        · rw [← List.append_assoc] at ho
          rcases List.mem_append.mp ho with e | e
          · refine keyPut hN3 _ _ ?_ (growDp S3 _ _ (dl o e))
            rcases List.mem_append.mp e with e | e
            · have : o.1 ∈ ks.map Prod.fst := List.mem_map.mpr ⟨o, e, rfl⟩
              rw [ek] at this
              obtain ⟨y, _, e2⟩ := List.mem_map.mp this
              rw [← e2]
              exact past_key y
            · have : o.1 ∈ ls.map Prod.fst := List.mem_map.mpr ⟨o, e, rfl⟩
              rw [el] at this
              obtain ⟨y, _, e2⟩ := List.mem_map.mp this
              rw [← e2]
              exact past_key y
          · rw [List.mem_singleton.mp e]
            exact keyPut hN3 _ _ (past_key _) dn
      · rintro N ⟨ls, GN, _, _, _, hN, el, dl⟩
        refine ⟨ks ++ ls, GN, hN, ?_, dl⟩
        have ln : ts.length = (nextP z r p).length := by rw [lts]; simp only [nextP, List.length_map]
        rw [ln, List.take_length] at el
        rw [List.map_append, ek, el, er, List.flatMap_append, List.map_append]
        simp
    · rintro L ⟨ks, GL, hL, ek, dk⟩
      rw [lus, List.take_length] at ek
      have form : ∀ d ∈ ks.map Prod.fst, ∃ p ∈ ps.flatMap (nextP z r), d = pastD p := fun d hd => by
        rw [ek] at hd
        obtain ⟨p, h1, h2⟩ := List.mem_map.mp hd
        exact ⟨p, h1, h2.symm⟩
      have isk : ∀ d ∈ ks.map Prod.fst, isKeyD d = true ∧ d.depth ≤ 2 := fun d hd => by
        obtain ⟨p, _, rfl⟩ := form d hd
        exact ⟨past_key p, past_deep p⟩
      have long : ∀ p ∈ ps.flatMap (nextP z r), p.1.length = g + 1 := fun p hp => by
        obtain ⟨q, hq, hp⟩ := List.mem_flatMap.mp hp
        unfold nextP at hp
        obtain ⟨t, ht, rfl⟩ := List.mem_map.mp hp
        have lq := pl q hq
        exact (turnsK_len (fun e => by rw [e, List.length_nil] at lq; omega) ht).trans lq
      have mk : ∀ p ∈ ks, p.1 ∈ ks.map Prod.fst := fun p hp => List.mem_map.mpr ⟨p, hp, rfl⟩
      refine ⟨D, ks, rfl, SqL.of hL, fun p hp => ⟨(isk _ (mk p hp)).1, Nat.le_trans (isk _ (mk p hp)).2 (by decide), dk p hp⟩, fun E nd sub => ?_, fun s2 S gs sub all nd len => ?_⟩
      · have fE : ∀ d ∈ E, ∃ p ∈ ps.flatMap (nextP z r), d = pastD p := fun d hd => form d (sub d hd)
        have back : (E.map unP).map pastD = E := unP_back fun d hd => let ⟨p, _, e⟩ := fE d hd; ⟨p, e⟩
        have := few (E.map unP) (List.Pairwise.of_map pastD (S := fun a b => a ≠ b) (fun a b ne e => ne (congrArg pastD e)) (by rw [back]; exact nd)) fun x hx => by
          obtain ⟨d, hd, rfl⟩ := List.mem_map.mp hx
          obtain ⟨p, hp, rfl⟩ := fE d hd
          rw [unP_past]
          exact hp
        rw [List.length_map] at this
        exact this
      · have S7 : Grow L (upd L s2 (SetKO w s2 S)) := Grow.new gs
        have mL : ∀ d ∈ S.map Prod.fst, d ∈ ks.map Prod.fst := fun d hd => by
          obtain ⟨p, hp, rfl⟩ := List.mem_map.mp hd
          exact mk p (sub p hp)
        refine ⟨s2, S, rfl, upd_same, fun p hp => ⟨(isk _ (mk p (sub p hp))).1, Nat.le_trans (isk _ (mk p (sub p hp))).2 (by decide), growDp S7 _ _ (dk p (sub p hp))⟩, fun d hd d' hd' => ?_, .inl fun d hd => ?_, fun M ys l pm ly hyd gl => ?_⟩
        · obtain ⟨p, l1, rfl⟩ := form d (mL d hd)
          obtain ⟨q, l2, rfl⟩ := form d' (mL d' hd')
          exact past_alike ((long p l1).trans (long q l2).symm)
        · obtain ⟨p, l1, rfl⟩ := form d (mL d hd)
          exact ⟨_, _, rfl⟩
        · have pmf := pm.map Prod.fst
          have fM : ∀ d ∈ (M.map Prod.fst).mergeSort (PySem.W.dataLe false id), ∃ p ∈ ps.flatMap (nextP z r), d = pastD p := fun d hd => form d (mL d (pmf.mem_iff.mp ((List.mergeSort_perm _ _).mem_iff.mp hd)))
          have ndM : ((M.map Prod.fst).mergeSort (PySem.W.dataLe false id)).Nodup := ((List.mergeSort_perm _ _).nodup_iff).mpr (pmf.nodup_iff.mpr nd)
          have allM : ∀ p ∈ ps.flatMap (nextP z r), pastD p ∈ (M.map Prod.fst).mergeSort (PySem.W.dataLe false id) := fun p hp => by
            have h1 : pastD p ∈ ks.map Prod.fst := by rw [ek]; exact List.mem_map.mpr ⟨p, hp, rfl⟩
            obtain ⟨o, ho, e⟩ := List.mem_map.mp h1
            rw [← e]
            exact (List.mergeSort_perm _ _).mem_iff.mpr (pmf.mem_iff.mpr (all o ho))
          generalize (M.map Prod.fst).mergeSort (PySem.W.dataLe false id) = E at hyd fM ndM allM
          have back : (E.map unP).map pastD = E := unP_back fun d hd => let ⟨p, _, e⟩ := fM d hd; ⟨p, e⟩
          have S8 := S7.trans (Grow.new (o := .lst ys) gl)
          refine k l ys (E.map unP) _ (GL.trans S8) upd_same (by rw [back]; exact growDpAll (Grow.new (o := .lst ys) gl) _ _ hyd) (List.Pairwise.of_map pastD (S := fun a b => a ≠ b) (fun a b ne e => ne (congrArg pastD e)) (by rw [back]; exact ndM)) fun p => ⟨fun hp => ?_, fun hp => ?_⟩
          · obtain ⟨d, hd, rfl⟩ := List.mem_map.mp hp
            obtain ⟨q, hq, rfl⟩ := fM d hd
            rw [unP_past]
            exact hq
          · exact List.mem_map.mpr ⟨_, allM p hp, unP_past p⟩
end

/-! ### behind a log -/
def pastsL (z r g : Int) (qs : List (Int × Int)) : Nat → List Past
  | 0 => (begR z r g).map (pastI g.toNat r)
  | k + 1 => ((pastsL z r g qs k).filter fun p => toldB (qs.getD k (-1, -1)) p.1).flatMap (nextP z r)
def noneAt (z r g : Int) (qs : List (Int × Int)) : Option Nat := (List.range qs.length).find? fun k => ((pastsL z r g qs k).filter fun p => toldB (qs.getD k (-1, -1)) p.1).isEmpty
def Bad1 (C : Addr) (E : XK) (H : Hp) (n : Nat) : Prop := ∀ (J : Hp) (d : Addr), Grow H J → J d = some (.xd [("number", .int (n : Int))]) → E (.ref C) (some d) J
def FewPasts (z r g : Int) (qs : List (Int × Int)) : Prop := ∀ k, k ≤ qs.length → ∀ D : List Past, D.Nodup → (∀ d ∈ D, d ∈ pastsL z r g qs k) → D.length < 299
def sp_pbehind (K : PySem.W.Frag) (tb tb2 tb3 C : Addr) : Sp := fun vs H Q E => ∃ (th lt : Addr) (z r g : Int) (fs : List V) (qs : List (Int × Int)), vs = [.ref th, .ref lt] ∧ SqT K H th [.int z, .int r, .int g] ∧ HouseOf 81 z r g ∧ SqT K H lt fs ∧ DpAll K H fs (qs.map pairD) ∧ GxR.TabG H tb ∧ GxR.TabG H tb2 ∧ GxR.TabG H tb3 ∧ FewPasts z r g qs ∧
  (noneAt z r g qs = none → ∀ (l : Addr) (ws : List V) (out : List Past) (J : Hp), Grow H J → J l = some (.lst ws) → DpAll K J ws (out.map pastD) → out.length ≤ 300 → (∀ p, p ∈ out ↔ p ∈ pastsL z r g qs qs.length) → Q (.ref l) J) ∧ ∀ k, noneAt z r g qs = some k → Bad1 C E H k
theorem find_first {n k : Nat} {f : Nat → Bool} : (List.range n).find? f = some k ↔ k < n ∧ f k = true ∧ ∀ j, j < k → (!f j) = true := by
  rw [List.find?_range_eq_some]
  constructor
  · rintro ⟨a, b, c⟩
    exact ⟨List.mem_range.mp b, a, fun j hj => c j hj⟩
  · rintro ⟨a, b, c⟩
    exact ⟨b, List.mem_range.mpr a, fun j hj => c j hj⟩
theorem pastsL_long {z r : Int} {gn : Nat} {qs : List (Int × Int)} : ∀ k, ∀ p ∈ pastsL z r (gn : Int) qs k, p.1.length = gn + 1
  | 0, p, hp => by
    obtain ⟨ns, hns, rfl⟩ := List.mem_map.mp hp
    show (headsI ns (ns.length - 1) ((gn : Int)).toNat).length = _
    unfold headsI
    rw [List.length_map, List.length_range, Int.toNat_natCast]
  | k + 1, p, hp => by
    obtain ⟨q, hq, hp⟩ := List.mem_flatMap.mp hp
    have lq := pastsL_long k q (List.mem_filter.mp hq).1
    unfold nextP at hp
    obtain ⟨t, ht, rfl⟩ := List.mem_map.mp hp
    exact (turnsK_len (fun e => by rw [e, List.length_nil] at lq; omega) ht).trans lq
section
variable {P : Program} {w : World} {K : PySem.W.Frag} {mg : Str → Option Value} {base : Heap}
theorem ok_pbehind (T : Txt K mg) (TB : GxR.TabB base mg T.c_changes_of T.p_changes_of) (TB2 : GxR.TabB base mg T.c_heads_back T.p_heads_back) (TB3 : GxR.TabB base mg T.c_turns T.p_turns) : FnOk P w K mg base (L2.CX P w) 6 T.a_pasts_behind T.d_pasts_behind ["house", "log"] (sp_pbehind K T.p_changes_of T.p_heads_back T.p_turns T.C_NoCourse) := by
  have G_pasts_at_first : FnOk P w K mg base CX0 5 T.a_pasts_at_first T.d_pasts_at_first ["house"] (sp_pfirst K T.p_changes_of T.p_heads_back) := ok_pfirst T TB TB2
  have G_pasts_later : FnOk P w K mg base CX0 2 T.a_pasts_later T.d_pasts_later ["house", "pasts"] (sp_plater K w T.p_turns) := ok_plater T TB3
  have G_may_be_told : FnOk P w K mg base CX0 2 T.a_may_be_told T.d_may_be_told ["heads", "pair"] (sp_mbt K) := ok_mbt T
  have G_NoCourse_init : FnOk P w K mg base CX0 1 T.a_NoCourse_init T.d_NoCourse_init ["self", "number"] (spInit1 K T.C_NoCourse "number") := ok_NoCourse T
  refine T.F_pasts_behind.okX sc_pasts_behind (fun vs H Q E h => ?_) (fun cdv A outer s H vs Q E hr h => ?_)
  · obtain ⟨th, lt, z, r, g, fs, qs, rfl, _⟩ := h
    rfl
  · obtain ⟨th, lt, z, r, g, fs, qs, rfl, hth, hz, hlt, dq, hT, hT2, hT3, few, k, kE⟩ := h
    refine ⟨_, (pss_cons (ps_set (i := 2) sc_pasts_behind.nd rfl (Or.inl rfl) (pe_call G_pasts_at_first (hr.mono (by omega)) (by rfl) T.g_pasts_at_first T.F_pasts_at_first.kp T.b_pasts_at_first .nil pass0 (pa_cons (pv 0) pa_nil)))
      (pss_cons (ps_for (passes_of rfl) rfl (pi_enumT (by rfl) T.m_enumerate (pa_cons (pv 1) pa_nil)) (pg_tup (by rfl) (pgs_cons (pg_name (i := 3) sc_pasts_behind.nd rfl (Or.inl rfl)) (pgs_cons (pg_name (i := 4) sc_pasts_behind.nd rfl (Or.inr rfl)) pgs_nil)))
        (pss_cons (ps_setLc (i := 5) (own := [("past", 6)]) (g := gName 6) (by rfl) sc_pasts_behind.nd rfl rfl (sw_true rfl rfl rfl (by decide +kernel)) (pi_list (pv 2)) (blkOk_by (own := [("past", 6)]) (N := ["house", "log", "pasts", "number", "pair", "fitting", "past"]) (sc := defScope s_pasts_behind) (by decide +kernel)) (fun _ _ _ _ _ => (pg_name (i := 6) sc_pasts_behind.nd rfl (Or.inl rfl))) (fun _ _ _ _ _ => (pts_one (pt_val (pe_call G_may_be_told (hr.mono (by omega)) (by rfl) T.g_may_be_told T.F_may_be_told.kp T.b_may_be_told .nil pass0 (pa_cons (pe_ix (ixTK K rfl) (pv 6) pe_int (fun _ _ => rfl)) (pa_cons (pv 4) pa_nil)))))) (fun _ _ _ _ _ => (pv 6)))
      (pss_cons (ps_if (pt_cmpR op_eq (pe_callB (id := "len") call_len_seq (by rfl) T.m_len (by decide +kernel) (pa_cons (pv 5) pa_nil)) pe_int (nomark _))
        (pss_one (ps_raise rfl (takes_of rfl rfl rfl rfl) (pmk_oex T.E_NoCourse.ox T.E_NoCourse.iC T.E_NoCourse.tI G_NoCourse_init (hr.mono (by omega)) T.b_NoCourse_init .nil pass0 (by rfl) T.E_NoCourse.gC (pa_cons (pv 3) pa_nil))))
        pss_nil)
      (pss_one (ps_set (i := 2) sc_pasts_behind.nd rfl (Or.inl rfl) (pe_call G_pasts_later (hr.mono (by omega)) (by rfl) T.g_pasts_later T.F_pasts_later.kp T.b_pasts_later .nil pass0 (pa_cons (pv 0) (pa_cons (pv 5) pa_nil))))))))
      (pss_one (ps_ret (pv 2))))), ?_⟩
    obtain ⟨z2, z4, r1, r6, g0, g3, _⟩ := id hz
    obtain ⟨gn, rfl⟩ : ∃ n : Nat, g = (n : Int) := ⟨g.toNat, (Int.toNat_of_nonneg g0).symm⟩
    have egn : ((gn : Int)).toNat = gn := Int.toNat_natCast gn
    have lB : (begR z r (gn : Int)).length ≤ 81 := Nat.le_trans (List.length_filter_le _ _) (allR_small hz _ (Nat.le_refl _))
    have long : ∀ k, ∀ p ∈ pastsL z r (gn : Int) qs k, p.1.length = gn + 1 := pastsL_long
    have lfs := dpAll_len dq
    rw [List.length_map] at lfs
    refine ⟨_, rfl, th, z, r, gn, rfl, hth, hz, hT, hT2, fun l0 ws0 J0 G0 hl0 dw0 => ?_⟩
    have ltJ := G0.tup hlt
    have dqJ := growDpAll G0 _ _ dq
    refine ⟨_, rfl, lt, fs, rfl, ltJ, for_it (walk_enumT (K := K) (a := lt) (xs := fs) (c := 0)) (fun i σ J => ∃ (l : Addr) (y3 y4 y5 y6 : Option V) (ws : List V) (out : List Past), σ = [some (.ref th), some (.ref lt), some (.ref l), y3, y4, y5, y6] ∧ Grow H J ∧ J l = some (.lst ws) ∧ DpAll K J ws (out.map pastD) ∧ out.length ≤ 300 ∧ (∀ p, p ∈ out ↔ p ∈ pastsL z r (gn : Int) qs i) ∧ ∀ j, j < i → ((pastsL z r (gn : Int) qs j).filter fun p => toldB (qs.getD j (-1, -1)) p.1) ≠ []) ⟨l0, none, none, none, none, ws0, _, rfl, G0, hl0, dw0, by rw [List.length_map]; omega, fun p => by rw [pastsL, egn], fun j hj => absurd hj (Nat.not_lt_zero j)⟩ (fun i σ J _ ⟨_, _, _, _, _, _, _, _, G, _⟩ => G.tup hlt) ?_ ?_⟩
    · rintro i x σ M M' hi ⟨l, y3, y4, y5, y6, ws, out, rfl, G, hl, dw, l300, mem, good⟩ ⟨Tp, x1, x2, rfl, hTn, rfl, e1, hxi⟩
      cases e1
      obtain ⟨dq2, hdq, dx⟩ := dpAll_get dq hxi
      rw [List.getElem?_map] at hdq
      obtain ⟨qr, hqr, rfl⟩ := Option.map_eq_some_iff.mp hdq
      have hiq : i < qs.length := (List.getElem?_eq_some_iff.mp hqr).1
      have eqr : qs.getD i (-1, -1) = qr := by rw [List.getD_eq_getElem?_getD, hqr]; rfl
      have GT : Grow M (upd M Tp (.tup [.int (0 + (i : Int)), x2])) := Grow.new hTn
      have R1 : Grow H (upd M Tp (.tup [.int (0 + (i : Int)), x2])) := G.trans GT
      have hTp : upd M Tp (.tup [.int (0 + (i : Int)), x2]) Tp = some (.tup [.int (0 + (i : Int)), x2]) := upd_same
      have hlM := GT.at hl
      have dwM := growDpAll GT _ _ dw
      generalize upd M Tp (.tup [.int (0 + (i : Int)), x2]) = M4 at *
      refine ⟨Tp, _, rfl, SqT.of hTp, rfl, _, _, rfl, _, _, rfl, rfl, ?_⟩
      obtain ⟨pt, rfl, spt⟩ : ∃ pt : Addr, x2 = .ref pt ∧ SqT K H pt [.int qr.1, .int qr.2] := by
        unfold pairD at dx
        cases dx with
        | tup h1 h2 =>
        cases h2 with
        | cons a h2 =>
        cases h2 with
        | cons b h2 =>
        cases h2
        cases a
        cases b
        exact ⟨_, rfl, h1⟩
      have lws : ws.length = out.length := by
        have := dpAll_len dwM
        rw [List.length_map] at this
        exact this
      refine ⟨_, rfl, l, rfl, ⟨_, SqL.of hlM⟩, fun D hD => ?_⟩
      refine lc_list (K := K) (a := l) (xs := ws) (fun i L => ∃ vs : List V, Grow M4 L ∧ L D = some (.lst vs) ∧ vs.length ≤ i ∧ DpAll K L vs (((out.take i).filter fun p => toldB qr p.1).map pastD)) ⟨[], Grow.new hD, upd_same, Nat.le_refl _, .nil⟩ (fun i L _ ⟨_, GL, _⟩ => GL.seq (SqL.of hlM)) ?_ ?_
      · rintro m v L hv ⟨vs, GL, hL, lv, dv⟩
        obtain ⟨d2, hd2, dx0⟩ := dpAll_get dwM hv
        rw [List.getElem?_map] at hd2
        obtain ⟨p, hp, rfl⟩ := Option.map_eq_some_iff.mp hd2
        obtain ⟨b, c, rfl, hb, hc⟩ := dp_past (growDp GL _ _ dx0)
        have pm : p ∈ out := List.mem_of_getElem? hp
        have pn := long i p ((mem p).mp pm)
        have hml : m < ws.length := (List.getElem?_eq_some_iff.mp hv).1
        have e6 : (out.take (m + 1)).filter (fun p => toldB qr p.1) = (out.take m).filter (fun p => toldB qr p.1) ++ if toldB qr p.1 = true then [p] else [] := by
          rw [List.take_add_one, hp, List.filter_append]
          simp only [Option.toList_some, List.filter_cons, List.filter_nil]
        refine ⟨rfl, ?_⟩
        refine ⟨_, rfl, b, _, 0, _, rfl, rfl, hb, rfl, _, rfl, c, pt, p.1, qr, rfl, hc, by omega, GL.tup (R1.tup spt), fun L2 S2 => ?_⟩
        have hL2 := S2 _ _ hL
        refine ⟨_, rfl, ite2 (fun hk => ?_) (fun hk => ?_)⟩
        · rw [if_pos hk] at e6
          refine ⟨_, rfl, vs, hL2, Nat.lt_of_lt_of_le (by omega : vs.length < 1000) (by decide), vs ++ [.ref b], (GL.trans (Grow.of_same S2)).write hD, upd_same, by rw [List.length_append, List.length_singleton]; omega, ?_⟩
          rw [e6, List.map_append]
          refine dpAll_append (keyPutAll hL2 _ _ (keys_all fun d hd => ?_) (dpAllSame S2 _ _ dv)) (.cons (keyPut hL2 _ _ (past_key _) (growDp ((GL.trans (Grow.of_same S2))) _ _ dx0)) .nil)
          obtain ⟨y, _, rfl⟩ := List.mem_map.mp hd
          exact past_key y
        · rw [if_neg hk, List.append_nil] at e6
          exact ⟨vs, GL.trans (Grow.of_same S2), hL2, by omega, by rw [e6]; exact dpAllSame S2 _ _ dv⟩
      · rintro L ⟨vs, GL, hL, lv, dv⟩
        rw [lws, List.take_length] at dv
        have memF : ∀ p, p ∈ out.filter (fun p => toldB qr p.1) ↔ p ∈ (pastsL z r (gn : Int) qs i).filter (fun p => toldB (qs.getD i (-1, -1)) p.1) := fun p => by
          rw [eqr, List.mem_filter, List.mem_filter, mem p]
        have lf : (out.filter fun p => toldB qr p.1).length ≤ 300 := Nat.le_trans (List.length_filter_le _ _) l300
        generalize (out.filter fun p => toldB qr p.1) = fit at dv memF lf
        have lvf := dpAll_len dv
        rw [List.length_map] at lvf
        refine ⟨_, rfl, D, _, rfl, .inl (SqL.of hL), rfl, _, rfl, ?_⟩
        have GHL := R1.trans GL
        cases fit with
        | nil =>
          have e0 : vs.length = 0 := lvf
          rw [e0]
          refine iteT ⟨_, rfl, err_one fun d hd => ?_⟩
          refine kE i ?_ _ d (GHL.trans (Grow.new hd)) (by rw [upd_same, Int.zero_add])
          unfold noneAt
          rw [find_first]
          refine ⟨hiq, ?_, fun j hj => ?_⟩
          · rw [List.isEmpty_iff]
            exact List.eq_nil_iff_forall_not_mem.mpr fun p hp => absurd ((memF p).mpr hp) List.not_mem_nil
          · have := good j hj
            simpa using this
        | cons f0 fit =>
          rw [decide_eq_false (show ¬ V.int (vs.length : Int) = V.int 0 from fun e => by
            have := V.int.inj e
            rw [lvf, List.length_cons] at this
            omega)]
          refine iteF ?_
          refine ⟨_, rfl, _, rfl, th, D, z, r, gn, vs, f0 :: fit, rfl, GHL.tup hth, by omega, by omega, by omega, hL, dv, fun p hp => long i p (List.mem_filter.mp ((memF p).mp hp)).1, by omega, GHL.t.tab hT3, ?_, fun l2 ws2 out2 N G2 hl2 dw2 nd2 mem2 => ?_⟩
          · intro E1 nd sub
            refine few (i + 1) hiq E1 nd fun d hd => ?_
            obtain ⟨q, hq, hd⟩ := List.mem_flatMap.mp (sub d hd)
            exact List.mem_flatMap.mpr ⟨q, (memF q).mp hq, hd⟩
          · have mem3 : ∀ p, p ∈ out2 ↔ p ∈ pastsL z r (gn : Int) qs (i + 1) := fun p => by
              rw [mem2 p, pastsL, List.mem_flatMap, List.mem_flatMap]
              exact ⟨fun ⟨q, hq, h⟩ => ⟨q, (memF q).mp hq, h⟩, fun ⟨q, hq, h⟩ => ⟨q, (memF q).mpr hq, h⟩⟩
            refine ⟨l2, _, _, _, _, ws2, out2, rfl, GHL.trans G2, hl2, dw2, ?_, mem3, fun j hj => ?_⟩
            · have := few (i + 1) hiq out2 nd2 fun d hd => (mem3 d).mp hd
              omega
            · by_cases e : j = i
              · rw [e]
                intro z0
                have := (memF f0).mp List.mem_cons_self
                rw [z0] at this
                exact absurd this List.not_mem_nil
              · exact good j (by omega)
    · rintro σ M ⟨l, y3, y4, y5, y6, ws, out, rfl, G, hl, dw, l300, mem, good⟩
      rw [lfs] at mem good
      have none : noneAt z r (gn : Int) qs = none := by
        unfold noneAt
        rw [List.find?_eq_none]
        intro j hj
        have := good j (List.mem_range.mp hj)
        simpa using this
      exact ⟨_, rfl, k none l ws out _ G hl dw l300 mem⟩
end

/-! ### who may head behind a log -/
def sp_mayhead (K : PySem.W.Frag) (tb tb2 tb3 C : Addr) : Sp := fun vs H Q E => ∃ (th lt : Addr) (z r g : Int) (fs : List V) (qs : List (Int × Int)), vs = [.ref th, .ref lt] ∧ SqT K H th [.int z, .int r, .int g] ∧ HouseOf 81 z r g ∧ SqT K H lt fs ∧ DpAll K H fs (qs.map pairD) ∧ GxR.TabG H tb ∧ GxR.TabG H tb2 ∧ GxR.TabG H tb3 ∧ FewPasts z r g qs ∧ (∀ p ∈ pastsL z r g qs qs.length, 0 ≤ p.1.headD 0 ∧ p.1.headD 0 < z) ∧
  (noneAt z r g qs = none → ∀ (out : List Int) (t : Addr) (J : Hp), Sorted out ((pastsL z r g qs qs.length).map fun p => p.1.headD 0) → Grow H J → J t = some (.tup (out.map V.int)) → Q (.ref t) J) ∧ ∀ k, noneAt z r g qs = some k → Bad1 C E H k
section
variable {P : Program} {w : World} {K : PySem.W.Frag} {mg : Str → Option Value} {base : Heap}
theorem ok_mayhead (T : Txt K mg) (TB : GxR.TabB base mg T.c_changes_of T.p_changes_of) (TB2 : GxR.TabB base mg T.c_heads_back T.p_heads_back) (TB3 : GxR.TabB base mg T.c_turns T.p_turns) : FnOk P w K mg base (L2.CX P w) 7 T.a_may_head T.d_may_head ["house", "log"] (sp_mayhead K T.p_changes_of T.p_heads_back T.p_turns T.C_NoCourse) := by
  have G_pasts_behind : FnOk P w K mg base (L2.CX P w) 6 T.a_pasts_behind T.d_pasts_behind ["house", "log"] (sp_pbehind K T.p_changes_of T.p_heads_back T.p_turns T.C_NoCourse) := ok_pbehind T TB TB2 TB3
  refine T.F_may_head.okX sc_may_head (fun vs H Q E h => ?_) (fun cdv A outer s H vs Q E hr h => ?_)
  · obtain ⟨th, lt, z, r, g, fs, qs, rfl, _⟩ := h
    rfl
  · obtain ⟨th, lt, z, r, g, fs, qs, rfl, hth, hz, hlt, dq, hT, hT2, hT3, few, hInz, k, kE⟩ := h
    refine ⟨_, (pss_one (ps_ret (pe_callTy (T := "tuple") call_tuple_of (by rfl) T.m_tuple (by decide +kernel) (pa_cons (pe_callB (id := "sorted") (cr_sortedFew rfl) (by rfl) T.m_sorted (by decide +kernel) (pa_cons (pe_callTy (T := "set") (cr_setN rfl) (by rfl) T.m_set (by decide +kernel) (pa_cons (pe_lc (own := [("heads", 2), ("_", 3)]) (g := gTup K 3 (gCons (gName 2) (gCons (gName 3) (gCons (gName 3) gNil)))) (by rfl) sc_may_head.nd (pi_list (pe_call G_pasts_behind (hr.mono (by omega)) (by rfl) T.g_pasts_behind T.F_pasts_behind.kp T.b_pasts_behind .nil (passes_call (E := E) (takes_of (E := E) rfl rfl rfl rfl) (fun _ _ _ _ h => h)) (pa_cons (pv 0) (pa_cons (pv 1) pa_nil)))) (blkOk_by (own := [("heads", 2), ("_", 3)]) (N := ["house", "log", "heads", "_"]) (sc := defScope s_may_head) (by decide +kernel)) (fun _ _ _ _ _ => (pg_tripK K (i := 2) (j := 3) (l := 3) rfl rfl sc_may_head.nd rfl (Or.inl rfl) rfl (Or.inl rfl) rfl (Or.inl rfl))) (fun _ _ _ _ _ => pts_nil) (fun _ _ _ _ _ => (pe_ix (ixTK K rfl) (pv 2) pe_int (fun _ _ => rfl)))) pa_nil)) pa_nil)) pa_nil)))), ?_⟩
    have long := fun k => pastsL_long (z := z) (r := r) (gn := g.toNat) (qs := qs) k
    obtain ⟨z2, z4, r1, r6, g0, g3, _⟩ := id hz
    rw [Int.toNat_of_nonneg g0] at long
    refine ⟨_, rfl, _, rfl, th, lt, z, r, g, fs, qs, rfl, hth, hz, hlt, dq, hT, hT2, hT3, few, fun hn l ws out J G hl dw l300 mem => ?_, kE⟩
    have kk := k hn
    have lws := dpAll_len dw
    rw [List.length_map] at lws
    refine ⟨l, rfl, ⟨_, SqL.of hl⟩, fun D hD => ?_⟩
    refine lc_list (K := K) (a := l) (xs := ws) (fun i L => Grow J L ∧ L D = some (.lst (((out.take i).map fun p => p.1.headD 0).map V.int))) ⟨Grow.new hD, upd_same⟩ (fun i L _ ⟨GL, _⟩ => GL.seq (SqL.of hl)) ?_ ?_
    · rintro m v L hv ⟨GL, hL⟩
      obtain ⟨d2, hd2, dx0⟩ := dpAll_get dw hv
      rw [List.getElem?_map] at hd2
      obtain ⟨p, hp, rfl⟩ := Option.map_eq_some_iff.mp hd2
      obtain ⟨b, c, rfl, hb, hc⟩ := dp_past (growDp GL _ _ dx0)
      have pn := long _ p ((mem p).mp (List.mem_of_getElem? hp))
      have hml : m < ws.length := (List.getElem?_eq_some_iff.mp hv).1
      refine ⟨b, _, rfl, hb, rfl, _, _, rfl, _, _, rfl, _, _, rfl, rfl, ?_⟩
      refine ⟨rfl, ?_⟩
      unfold tYes
      refine iteT ⟨_, rfl, c, _, 0, _, rfl, rfl, hc, at_head (fun e => by rw [e, List.length_nil] at pn; omega), ?_⟩
      refine ⟨_, hL, Nat.lt_of_lt_of_le (by rw [List.length_map, List.length_map, List.length_take]; omega : _ < 1000) (by decide), GL.write hD, ?_⟩
      rw [upd_same, List.take_add_one, hp, List.map_append, List.map_append]
      rfl
    · rintro L ⟨GL, hL⟩
      rw [lws, List.take_length] at hL
      have es : ∀ x, x ∈ (out.map fun p => p.1.headD 0) ↔ x ∈ (pastsL z r g qs qs.length).map fun p => p.1.headD 0 := fun x => by
        simp only [List.mem_map, mem]
      have ln : (out.map fun p => p.1.headD 0).length ≤ 300 := by rw [List.length_map]; exact l300
      have inz : ∀ x, x ∈ (out.map fun p => p.1.headD 0) → x ∈ (List.range z.toNat).map (fun i : Nat => (i : Int)) := fun x hx => by
        obtain ⟨p, hp, rfl⟩ := List.mem_map.mp hx
        obtain ⟨u0, u1⟩ := hInz p ((mem p).mp hp)
        exact List.mem_map.mpr ⟨(p.1.headD 0).toNat, List.mem_range.mpr (by omega), by omega⟩
      generalize (out.map fun p => p.1.headD 0) = ns at hL es ln inz
      have GHL := G.trans GL
      refine ⟨D, ns, rfl, .inl (SqL.of hL), by omega, fun p1 c1 lc h1 => ⟨p1, _, c1, (List.range z.toNat).map (fun i : Nat => (i : Int)), rfl, upd_same, fun x hx => inz x (of_decide_eq_true hx), by rw [List.length_map, List.length_range]; omega, fun o p2 o1 o2 o3 h2 => ⟨p2, _, rfl, .inl ⟨SqL.of upd_same, fun t ht =>
        kk o t _ ⟨o1, fun u => by rw [o2 u, ← es u]; exact decide_eq_true_iff⟩ (((GHL.trans (Grow.new h1)).trans (Grow.new h2)).trans (Grow.new ht)) upd_same⟩⟩⟩⟩
end

/-! ### when the head changed last, behind a log -/
def LastD (A : List Int) (d : PyData) : Prop := ((∀ x ∈ A, x = -1) ∧ d = .tuple [.none, .none]) ∨
  ∃ m M : Int, m ∈ A ∧ m ≠ -1 ∧ (∀ x ∈ A, x ≠ -1 → m ≤ x) ∧ M ∈ A ∧ M ≠ -1 ∧ (∀ x ∈ A, x ≠ -1 → x ≤ M) ∧ d = .tuple [.int m, if -1 ∈ A then .none else .int M]
theorem LastD.one {A B : List Int} (h : ∀ x, x ∈ A ↔ x ∈ B) {d e : PyData} (hd : LastD A d) (he : LastD B e) : d = e := by
  rcases hd with ⟨a1, rfl⟩ | ⟨m, M, m1, m2, m3, M1, M2, M3, rfl⟩
  · rcases he with ⟨b1, rfl⟩ | ⟨n, N, n1, n2, n3, N1, N2, N3, rfl⟩
    · rfl
    · exact absurd (a1 n ((h n).mpr n1)) n2
  · rcases he with ⟨b1, rfl⟩ | ⟨n, N, n1, n2, n3, N1, N2, N3, rfl⟩
    · exact absurd (b1 m ((h m).mp m1)) m2
    · have e1 : m = n := by
        have := m3 n ((h n).mpr n1) n2
        have := n3 m ((h m).mp m1) m2
        omega
      have e2 : M = N := by
        have := M3 N ((h N).mpr N1) N2
        have := N3 M ((h M).mp M1) M2
        omega
      rw [e1, e2]
      by_cases c : -1 ∈ A
      · rw [if_pos c, if_pos ((h _).mp c)]
      · rw [if_neg c, if_neg fun z => c ((h _).mpr z)]
theorem LastD.of {A B : List Int} (h : ∀ x, x ∈ A ↔ x ∈ B) {d : PyData} (hd : LastD A d) : LastD B d := by
  rcases hd with ⟨a1, rfl⟩ | ⟨m, M, m1, m2, m3, M1, M2, M3, rfl⟩
  · exact .inl ⟨fun x hx => a1 x ((h x).mpr hx), rfl⟩
  · refine .inr ⟨m, M, (h m).mp m1, m2, fun x hx => m3 x ((h x).mpr hx), (h M).mp M1, M2, fun x hx => M3 x ((h x).mpr hx), ?_⟩
    by_cases c : -1 ∈ A
    · rw [if_pos c, if_pos ((h _).mp c)]
    · rw [if_neg c, if_neg fun z => c ((h _).mpr z)]
theorem max_of : ∀ {cs : List Int}, cs ≠ [] → ∃ M, M ∈ cs ∧ ∀ x ∈ cs, x ≤ M
  | [], h => absurd rfl h
  | [x], _ => ⟨x, List.mem_singleton.mpr rfl, fun y hy => by rw [List.mem_singleton.mp hy]; exact Int.le_refl _⟩
  | x :: y :: t, _ => by
    obtain ⟨M, h1, h2⟩ := max_of (cs := y :: t) (by simp)
    by_cases c : x ≤ M
    · refine ⟨M, List.mem_cons_of_mem _ h1, fun z hz => ?_⟩
      rcases List.mem_cons.mp hz with e | e
      · rw [e]; exact c
      · exact h2 z e
    · refine ⟨x, List.mem_cons_self, fun z hz => ?_⟩
      rcases List.mem_cons.mp hz with e | e
      · rw [e]; exact Int.le_refl _
      · have := h2 z e
        omega
def sp_lastchg (K : PySem.W.Frag) (tb tb2 tb3 C : Addr) : Sp := fun vs H Q E => ∃ (th lt : Addr) (z r g : Int) (fs : List V) (qs : List (Int × Int)), vs = [.ref th, .ref lt] ∧ SqT K H th [.int z, .int r, .int g] ∧ HouseOf 81 z r g ∧ SqT K H lt fs ∧ DpAll K H fs (qs.map pairD) ∧ GxR.TabG H tb ∧ GxR.TabG H tb2 ∧ GxR.TabG H tb3 ∧ FewPasts z r g qs ∧
  (noneAt z r g qs = none → ∀ (t : Addr) (d : PyData) (J : Hp), LastD ((pastsL z r g qs qs.length).map fun p => p.2.2) d → Grow H J → Dp K J (.ref t) d → Q (.ref t) J) ∧ ∀ k, noneAt z r g qs = some k → Bad1 C E H k
section
variable {P : Program} {w : World} {K : PySem.W.Frag} {mg : Str → Option Value} {base : Heap}
theorem ok_lastchg (T : Txt K mg) (TB : GxR.TabB base mg T.c_changes_of T.p_changes_of) (TB2 : GxR.TabB base mg T.c_heads_back T.p_heads_back) (TB3 : GxR.TabB base mg T.c_turns T.p_turns) : FnOk P w K mg base (L2.CX P w) 7 T.a_last_change T.d_last_change ["house", "log"] (sp_lastchg K T.p_changes_of T.p_heads_back T.p_turns T.C_NoCourse) := by
  have G_pasts_behind : FnOk P w K mg base (L2.CX P w) 6 T.a_pasts_behind T.d_pasts_behind ["house", "log"] (sp_pbehind K T.p_changes_of T.p_heads_back T.p_turns T.C_NoCourse) := ok_pbehind T TB TB2 TB3
  refine T.F_last_change.okX sc_last_change (fun vs H Q E h => ?_) (fun cdv A outer s H vs Q E hr h => ?_)
  · obtain ⟨th, lt, z, r, g, fs, qs, rfl, _⟩ := h
    rfl
  · obtain ⟨th, lt, z, r, g, fs, qs, rfl, hth, hz, hlt, dq, hT, hT2, hT3, few, k, kE⟩ := h
    refine ⟨_, (pss_cons (ps_setLc (i := 2) (own := [("_", 3), ("ago", 4)]) (g := gTup K 3 (gCons (gName 3) (gCons (gName 3) (gCons (gName 4) gNil)))) (by rfl) sc_last_change.nd rfl rfl (sw_true rfl rfl rfl (by decide +kernel)) (pi_list (pe_call G_pasts_behind (hr.mono (by omega)) (by rfl) T.g_pasts_behind T.F_pasts_behind.kp T.b_pasts_behind .nil (passes_call (E := E) (takes_of (E := E) rfl rfl rfl rfl) (fun _ _ _ _ h => h)) (pa_cons (pv 0) (pa_cons (pv 1) pa_nil)))) (blkOk_by (own := [("_", 3), ("ago", 4)]) (N := ["house", "log", "agos", "_", "ago", "changed"]) (sc := defScope s_last_change) (by decide +kernel)) (fun _ _ _ _ _ => (pg_tripK K (i := 3) (j := 3) (l := 4) rfl rfl sc_last_change.nd rfl (Or.inl rfl) rfl (Or.inl rfl) rfl (Or.inl rfl))) (fun _ _ _ _ _ => pts_nil) (fun _ _ _ _ _ => (pv 4)))
      (pss_cons (ps_setLc (i := 5) (own := [("ago", 4)]) (g := gName 4) (by rfl) sc_last_change.nd rfl rfl (sw_true rfl rfl rfl (by decide +kernel)) (pi_list (pv 2)) (blkOk_by (own := [("ago", 4)]) (N := ["house", "log", "agos", "_", "ago", "changed"]) (sc := defScope s_last_change) (by decide +kernel)) (fun _ _ _ _ _ => (pg_name (i := 4) sc_last_change.nd rfl (Or.inl rfl))) (fun _ _ _ _ _ => (pts_one (pt_cmpR op_ne (pv 4) (pe_glob (v := .int (-1)) rfl T.g_NOT_CHANGED ⟨_, rfl⟩) (nomark _)))) (fun _ _ _ _ _ => (pv 4)))
      (pss_cons (ps_if (pt_cmpR op_eq (pe_callB (id := "len") call_len_seq (by rfl) T.m_len (by decide +kernel) (pa_cons (pv 5) pa_nil)) pe_int (nomark _))
        (pss_one (ps_ret (pe_tup (pa_cons pe_non (pa_cons pe_non pa_nil)))))
        pss_nil)
      (pss_one (ps_ret (pe_tup (pa_cons (pe_callB (id := "min") (cr_min rfl) (by rfl) T.m_min (by decide +kernel) (pa_cons (pv 5) pa_nil)) (pa_cons (pe_ifExp (pt_cmpR op_eq (pe_callB (id := "len") call_len_seq (by rfl) T.m_len (by decide +kernel) (pa_cons (pv 5) pa_nil)) (pe_callB (id := "len") call_len_seq (by rfl) T.m_len (by decide +kernel) (pa_cons (pv 2) pa_nil)) (nomark _)) (pe_callB (id := "max") (cr_max rfl) (by rfl) T.m_max (by decide +kernel) (pa_cons (pv 5) pa_nil)) pe_non) pa_nil)))))))), ?_⟩
    refine ⟨_, rfl, _, rfl, th, lt, z, r, g, fs, qs, rfl, hth, hz, hlt, dq, hT, hT2, hT3, few, fun hn l ws out J G hl dw l300 mem => ?_, kE⟩
    have kk := k hn
    have lws := dpAll_len dw
    rw [List.length_map] at lws
    refine ⟨l, rfl, ⟨_, SqL.of hl⟩, fun D hD => ?_⟩
    refine lc_list (K := K) (a := l) (xs := ws) (fun i L => Grow J L ∧ L D = some (.lst (((out.take i).map fun p => p.2.2).map V.int))) ⟨Grow.new hD, upd_same⟩ (fun i L _ ⟨GL, _⟩ => GL.seq (SqL.of hl)) ?_ ?_
    · rintro m v L hv ⟨GL, hL⟩
      obtain ⟨d2, hd2, dx0⟩ := dpAll_get dw hv
      rw [List.getElem?_map] at hd2
      obtain ⟨p, hp, rfl⟩ := Option.map_eq_some_iff.mp hd2
      obtain ⟨b, c, rfl, hb, hc⟩ := dp_past (growDp GL _ _ dx0)
      have hml : m < ws.length := (List.getElem?_eq_some_iff.mp hv).1
      refine ⟨b, _, rfl, hb, rfl, _, _, rfl, _, _, rfl, _, _, rfl, rfl, ?_⟩
      refine ⟨rfl, ?_⟩
      unfold tYes
      refine iteT ⟨_, rfl, ?_⟩
      refine ⟨_, hL, Nat.lt_of_lt_of_le (by rw [List.length_map, List.length_map, List.length_take]; omega : _ < 1000) (by decide), GL.write hD, ?_⟩
      rw [upd_same, List.take_add_one, hp, List.map_append, List.map_append]
      rfl
    · rintro L ⟨GL, hL⟩
      rw [lws, List.take_length] at hL
      have es : ∀ x, x ∈ (out.map fun p => p.2.2) ↔ x ∈ (pastsL z r g qs qs.length).map fun p => p.2.2 := fun x => by
        simp only [List.mem_map, mem]
      have ln : (out.map fun p => p.2.2).length ≤ 300 := by rw [List.length_map]; exact l300
      generalize (out.map fun p => p.2.2) = ns at hL es ln
      have GHL := G.trans GL
      have hL1 : SqL K L D (ns.map V.int) := SqL.of hL
      refine ⟨_, rfl, D, rfl, ⟨_, hL1⟩, fun D2 hD2 => ?_⟩
      refine lc_list (K := K) (a := D) (xs := ns.map V.int) (fun i M => Same L M ∧ M D2 = some (.lst (((ns.take i).filter fun x => !decide (x = -1)).map V.int))) ⟨same_new hD2, upd_same⟩ (fun i M _ ⟨SM, _⟩ => SqL.of (SM _ _ hL)) ?_ ?_
      · rintro m v M hv ⟨SM, hM⟩
        rw [List.getElem?_map] at hv
        obtain ⟨x, hx, rfl⟩ := Option.map_eq_some_iff.mp hv
        have hml : m < ns.length := (List.getElem?_eq_some_iff.mp hx).1
        have e6 : (ns.take (m + 1)).filter (fun x => !decide (x = -1)) = (ns.take m).filter (fun x => !decide (x = -1)) ++ if (!decide (x = -1)) = true then [x] else [] := by
          rw [List.take_add_one, hx, List.filter_append]
          simp only [Option.toList_some, List.filter_cons, List.filter_nil]
        have vd : decide (V.int x = V.int (-1)) = decide (x = -1) := by simp only [V.int.injEq]
        refine ⟨rfl, ?_⟩
        refine ⟨_, rfl, rfl, _, rfl, ?_⟩
        rw [vd]
        refine ite2 (fun e => ?_) (fun e => ?_)
        · rw [if_pos e] at e6
          refine ⟨_, rfl, _, hM, Nat.lt_of_lt_of_le (by rw [List.length_map]; exact Nat.lt_of_le_of_lt (Nat.le_trans (List.length_filter_le _ _) (by rw [List.length_take]; omega : _ ≤ 300)) (by decide : 300 < 1000)) (by decide), writeS SM hD2, ?_⟩
          rw [upd_same, e6, List.map_append]
          rfl
        · rw [if_neg e, List.append_nil] at e6
          exact ⟨SM, by rw [e6]; exact hM⟩
      · rintro M ⟨SM, hM⟩
        rw [List.length_map, List.take_length] at hM
        have memc : ∀ x, x ∈ ns.filter (fun x => !decide (x = -1)) ↔ x ∈ ns ∧ x ≠ -1 := fun x => by
          rw [List.mem_filter]
          simp
        have lenc : (ns.filter fun x => !decide (x = -1)).length = ns.length ↔ -1 ∉ ns := by
          rw [List.length_filter_eq_length_iff]
          constructor
          · intro h z
            simpa using h _ z
          · intro h x hx
            have : x ≠ -1 := fun e => h (e ▸ hx)
            simpa using this
        generalize (ns.filter fun x => !decide (x = -1)) = cs at hM memc lenc
        have GM := GHL.trans (Grow.of_same SM)
        have lcs : (cs.map V.int).length = cs.length := List.length_map ..
        refine ⟨_, rfl, D2, _, rfl, .inl (SqL.of hM), rfl, _, rfl, ?_⟩
        rw [lcs]
        by_cases c0 : cs = []
        · rw [c0]
          refine iteT ⟨by show 2 ≤ sizeLine; decide, fun t ht => ?_⟩
          refine kk t _ _ (.inl ⟨fun x hx => ?_, rfl⟩) (GM.trans (Grow.new ht)) (.tup (SqT.of upd_same) (.cons .non (.cons .non .nil)))
          by_cases e : x = -1
          · exact e
          · have := (memc x).mpr ⟨(es x).mpr hx, e⟩
            rw [c0] at this
            exact absurd this List.not_mem_nil
        · have cp : 0 < cs.length := List.length_pos_iff.mpr c0
          rw [decide_eq_false (show ¬ V.int (cs.length : Int) = V.int 0 from fun e => by have := V.int.inj e; omega)]
          refine iteF ?_
          refine ⟨_, rfl, D2, cs, rfl, SqL.of hM, cp, fun m m1 m2 => ?_⟩
          have hN : SqL K M D (ns.map V.int) := SqL.of (SM _ _ hL)
          have lns : (ns.map V.int).length = ns.length := List.length_map ..
          refine ⟨_, rfl, D2, _, rfl, .inl (SqL.of hM), _, rfl, D, _, rfl, .inl hN, rfl, _, rfl, ?_⟩
          rw [lcs, lns]
          have vd : decide (V.int (cs.length : Int) = V.int (ns.length : Int)) = !decide (-1 ∈ ns) := by
            rw [Bool.eq_iff_iff]
            simp only [V.int.injEq, decide_eq_true_iff, Bool.not_eq_true', decide_eq_false_iff_not]
            rw [← lenc]
            omega
          rw [vd]
          have mm := (memc m).mp m1
          have em := es (-1)
          by_cases c1 : -1 ∈ ns
          · rw [decide_eq_true c1]
            refine iteF ⟨by show 2 ≤ sizeLine; decide, fun t ht => ?_⟩
            obtain ⟨M0, M1, M2⟩ : ∃ M0, M0 ∈ cs ∧ ∀ x ∈ cs, x ≤ M0 := max_of c0
            have MM := (memc M0).mp M1
            refine kk t _ _ (.inr ⟨m, M0, (es m).mp mm.1, mm.2, fun x hx hn1 => m2 x ((memc x).mpr ⟨(es x).mpr hx, hn1⟩), (es M0).mp MM.1, MM.2, fun x hx hn1 => M2 x ((memc x).mpr ⟨(es x).mpr hx, hn1⟩), rfl⟩) (GM.trans (Grow.new ht)) ?_
            rw [if_pos (em.mp c1)]
            exact .tup (SqT.of upd_same) (.cons (.int _) (.cons .non .nil))
          · rw [decide_eq_false c1]
            refine iteT ⟨_, rfl, D2, cs, rfl, SqL.of hM, cp, fun M0 M1 M2 => ?_⟩
            refine ⟨by show 2 ≤ sizeLine; decide, fun t ht => ?_⟩
            have MM := (memc M0).mp M1
            refine kk t _ _ (.inr ⟨m, M0, (es m).mp mm.1, mm.2, fun x hx hn1 => m2 x ((memc x).mpr ⟨(es x).mpr hx, hn1⟩), (es M0).mp MM.1, MM.2, fun x hx hn1 => M2 x ((memc x).mpr ⟨(es x).mpr hx, hn1⟩), rfl⟩) (GM.trans (Grow.new ht)) ?_
            rw [if_neg (fun z => c1 (em.mpr z))]
            exact .tup (SqT.of upd_same) (.cons (.int _) (.cons (.int _) .nil))
end

/-! ### what keeps the rest, in part; the beginnings as the law comes to them -/
theorem gaps_part {r : Int} {cs ys : List Int} (h : gapsB r (cs ++ ys) = true) : gapsB r cs = true := by
  unfold gapsB at *
  rw [List.all_eq_true] at *
  intro p hp
  obtain ⟨i, hi⟩ := List.mem_iff_getElem?.mp hp
  obtain ⟨a, b⟩ := List.getElem?_zip_eq_some.mp hi
  rw [List.getElem?_drop] at b
  have la := (List.getElem?_eq_some_iff.mp a).1
  have lb := (List.getElem?_eq_some_iff.mp b).1
  refine h p (List.mem_of_getElem? (i := i) (List.getElem?_zip_eq_some.mpr ⟨?_, ?_⟩))
  · rw [List.getElem?_append_left la]; exact a
  · rw [List.getElem?_drop, List.getElem?_append_left lb]; exact b
theorem kept_part {r x : Int} {ns : List Int} (h : keptB (ns ++ [x]) r = true) : keptB ns r = true := by
  unfold keptB at *
  cases ns with
  | nil => rfl
  | cons y t =>
    refine gaps_part (ys := ((List.range 1).filter fun i => changesP ((y :: t) ++ [x]) (t.length + i)).map fun i : Nat => 1 + ((t.length + i : Nat) : Int)) ?_
    have e : changesI ((y :: t) ++ [x]) = changesI (y :: t) ++ ((List.range 1).filter fun i => changesP ((y :: t) ++ [x]) (t.length + i)).map fun i : Nat => 1 + ((t.length + i : Nat) : Int) := by
      unfold changesI
      have l1 : ((y :: t) ++ [x]).length - 1 = t.length + 1 := by simp
      have l2 : (y :: t).length - 1 = t.length := by simp
      rw [l1, l2, List.range_add, List.filter_append, List.map_append]
      congr 1
      · congr 1
        refine List.filter_congr fun i hi => ?_
        have li := List.mem_range.mp hi
        unfold changesP
        rw [List.getElem?_append_left (by rw [List.length_cons]; omega), List.getElem?_append_left (by rw [List.length_cons]; omega)]
      · rw [List.filter_map, List.map_map]
        rfl
    rw [← e]
    exact h
/-- the beginnings as the law comes to them -/
def lawR (z : Nat) (r : Int) : Nat → List (List Int)
  | 0 => [[]]
  | n + 1 => (extR z (lawR z r n)).filter fun ns => keptB ns r
theorem lawR_eq (z : Nat) (r : Int) : ∀ n, lawR z r n = (allR z n).filter fun ns => keptB ns r
  | 0 => rfl
  | n + 1 => by
    show (extR z (lawR z r n)).filter _ = (extR z (allR z n)).filter _
    rw [lawR_eq z r n]
    generalize allR z n = rows
    induction rows with
    | nil => rfl
    | cons x rows ih =>
      have one : ∀ ys : List (List Int), extR z (x :: ys) = extR z [x] ++ extR z ys := fun ys => by rw [← extR_append]; rfl
      rw [one, List.filter_append, ← ih]
      by_cases kx : keptB x r = true
      · rw [List.filter_cons, if_pos kx, one, List.filter_append]
      · rw [List.filter_cons, if_neg kx]
        have none : (extR z [x]).filter (fun ns => keptB ns r) = [] := by
          rw [List.filter_eq_nil_iff]
          intro y hy hk
          obtain ⟨q, hq, h, _, rfl⟩ := mem_extR.mp hy
          rw [List.mem_singleton.mp hq] at hk
          exact kx (kept_part hk)
        rw [none, List.nil_append]

/-! ### a course and a moment more -/
theorem gaps_snoc {r n : Int} {cs : List Int} (h : gapsB r cs = true) (l : ∀ c, cs.getLast? = some c → r ≤ n - c) : gapsB r (cs ++ [n]) = true := by
  unfold gapsB at *
  rw [List.all_eq_true] at *
  intro p hp
  obtain ⟨i, hi⟩ := List.mem_iff_getElem?.mp hp
  obtain ⟨h1, h2⟩ := List.getElem?_zip_eq_some.mp hi
  rw [List.getElem?_drop] at h2
  have l2 := (List.getElem?_eq_some_iff.mp h2).1
  rw [List.length_append, List.length_singleton] at l2
  rw [List.getElem?_append_left (by omega)] at h1
  by_cases e : 1 + i < cs.length
  · rw [List.getElem?_append_left e] at h2
    exact h p (List.mem_iff_getElem?.mpr ⟨i, List.getElem?_zip_eq_some.mpr ⟨h1, by rw [List.getElem?_drop]; exact h2⟩⟩)
  · have ei : 1 + i = cs.length := by omega
    rw [ei, List.getElem?_concat_length] at h2
    have hl : cs.getLast? = some p.1 := by rw [List.getLast?_eq_getElem?, show cs.length - 1 = i by omega]; exact h1
    have := l p.1 hl
    have e2 := Option.some.inj h2
    simp only [Bool.not_eq_true', decide_eq_false_iff_not]
    omega
theorem changes_snoc {ns : List Int} {la x : Int} (h : ns.getLast? = some la) (ne : x ≠ la) : changesI (ns ++ [x]) = changesI ns ++ [(ns.length : Int)] := by
  have n0 : 0 < ns.length := by
    cases ns with
    | nil => cases h
    | cons _ _ => simp
  rw [List.getLast?_eq_getElem?] at h
  unfold changesI
  rw [List.length_append, List.length_singleton, show ns.length + 1 - 1 = (ns.length - 1) + 1 by omega, List.range_succ, List.filter_append, List.map_append]
  congr 1
  · congr 1
    refine List.filter_congr fun i hi => ?_
    have hi' : i + 1 < ns.length := by have := List.mem_range.mp hi; omega
    unfold changesP
    rw [List.getElem?_append_left hi', List.getElem?_append_left (by omega)]
  · have z : changesP (ns ++ [x]) (ns.length - 1) = true := by
      unfold changesP
      rw [show ns.length - 1 + 1 = ns.length by omega, List.getElem?_append_left (by omega : ns.length - 1 < ns.length), h, List.getElem?_concat_length]
      simp [ne]
    rw [List.filter_cons, if_pos z, List.filter_nil, List.map_cons, List.map_nil]
    congr 1
    omega
theorem kept_snoc {ns : List Int} {la x r : Int} (h : ns.getLast? = some la) (k : keptB ns r = true) (c : x = la ∨ holdI r ns = 0) : keptB (ns ++ [x]) r = true := by
  by_cases e : x = la
  · rw [e, kept_last h]
    exact k
  · have hz := c.resolve_left e
    unfold keptB at *
    rw [changes_snoc h e]
    refine gaps_snoc k fun c hc => ?_
    unfold holdI at hz
    rw [hc] at hz
    simp only at hz
    omega

/-! ### pasts and courses -/
theorem changes_in {ns : List Int} {c : Int} (h : c ∈ changesI ns) : 1 ≤ c ∧ c ≤ (ns.length : Int) - 1 := by
  unfold changesI at h
  obtain ⟨i, hi, rfl⟩ := List.mem_map.mp h
  have := List.mem_range.mp (List.mem_filter.mp hi).1
  omega
theorem ago_snoc {ns : List Int} {la x : Int} (h : ns.getLast? = some la) : agoI (ns ++ [x]) = if x ≠ la then 0 else if agoI ns = -1 then -1 else agoI ns + 1 := by
  by_cases e : x = la
  · rw [if_neg (fun z => z e), e]
    unfold agoI
    rw [changes_last h]
    cases hc : (changesI ns).getLast? with
    | none => simp
    | some c =>
      have := changes_in (List.mem_of_getLast? hc)
      simp only [List.length_append, List.length_singleton]
      rw [if_neg (by omega)]
      omega
  · rw [if_pos e]
    unfold agoI
    rw [changes_snoc h e]
    simp
theorem ago_in (ns : List Int) : -1 ≤ agoI ns ∧ (agoI ns = -1 ∨ agoI ns ≤ (ns.length : Int) - 2) := by
  unfold agoI
  cases hc : (changesI ns).getLast? with
  | none => simp
  | some c =>
    have := changes_in (List.mem_of_getLast? hc)
    simp only
    omega
theorem hold_ago (r : Int) (ns : List Int) : holdI r ns = if agoI ns = -1 then 0 else max 0 (r - 1 - agoI ns) := by
  unfold agoI holdI
  cases hc : (changesI ns).getLast? with
  | none => simp
  | some c =>
    have := changes_in (List.mem_of_getLast? hc)
    simp only
    rw [if_neg (by omega)]
theorem gaps_end {r n : Int} {cs : List Int} (h : gapsB r (cs ++ [n]) = true) {c : Int} (hc : cs.getLast? = some c) : r ≤ n - c := by
  unfold gapsB at h
  rw [List.all_eq_true] at h
  rw [List.getLast?_eq_getElem?] at hc
  have lc := (List.getElem?_eq_some_iff.mp hc).1
  have := h (c, n) (List.mem_of_getElem? (i := cs.length - 1) (List.getElem?_zip_eq_some.mpr ⟨?_, ?_⟩))
  · simp only [Bool.not_eq_true', decide_eq_false_iff_not] at this
    omega
  · rw [List.getElem?_append_left lc]; exact hc
  · rw [List.getElem?_drop, show 1 + (cs.length - 1) = cs.length by omega]
    exact List.getElem?_concat_length
theorem kept_iff {ns : List Int} {la x r : Int} (h : ns.getLast? = some la) : keptB (ns ++ [x]) r = true ↔ keptB ns r = true ∧ (x = la ∨ holdI r ns = 0) := by
  refine ⟨fun k => ⟨kept_part k, ?_⟩, fun ⟨k, c⟩ => kept_snoc h k c⟩
  by_cases e : x = la
  · exact .inl e
  · right
    unfold keptB at k
    rw [changes_snoc h e] at k
    unfold holdI
    cases hc : (changesI ns).getLast? with
    | none => rfl
    | some c =>
      have := gaps_end k hc
      simp only
      omega
theorem heads_snoc {ns : List Int} {x : Int} {g : Nat} (h : g + 1 ≤ ns.length) : headsI (ns ++ [x]) ((ns ++ [x]).length - 1) g = x :: (headsI ns (ns.length - 1) g).take g := by
  have l : (ns ++ [x]).length - 1 = ns.length := by rw [List.length_append, List.length_singleton]; omega
  rw [l]
  unfold headsI
  rw [← List.map_take, List.take_range, show min g (g + 1) = g by omega, List.range_succ_eq_map, List.map_cons, List.map_map]
  congr 1
  · simp [List.getD_eq_getElem?_getD]
  · refine List.map_congr_left fun i hi => ?_
    have := List.mem_range.mp hi
    show (ns ++ [x]).getD (ns.length - (i + 1)) 0 = _
    rw [List.getD_eq_getElem?_getD, List.getD_eq_getElem?_getD, List.getElem?_append_left (by omega), show ns.length - (i + 1) = ns.length - 1 - i by omega]
theorem heads_first {ns : List Int} {la : Int} {g : Nat} (h : ns.getLast? = some la) : (headsI ns (ns.length - 1) g).headD 0 = la := by
  unfold headsI
  rw [List.range_succ_eq_map, List.map_cons, List.headD_cons, Nat.sub_zero, List.getD_eq_getElem?_getD, ← List.getLast?_eq_getElem?, h]
  rfl
theorem past_snoc {c : List Int} {la x r : Int} {g : Nat} (hl : c.getLast? = some la) (l : g + 1 ≤ c.length) (r1 : 1 ≤ r) :
    pastI g r (c ++ [x]) = (x :: (headsI c (c.length - 1) g).take g, (if x = la then max 0 (holdI r c - 1) else r - 1), if x ≠ la then 0 else if agoI c = -1 then -1 else agoI c + 1) := by
  unfold pastI
  rw [heads_snoc l, hold_ago r (c ++ [x]), ago_snoc hl, hold_ago r c]
  have := ago_in c
  congr 2
  by_cases e : x = la
  · rw [if_pos e, if_neg (show ¬ x ≠ la from fun z => z e)]
    by_cases a : agoI c = -1
    · rw [if_pos a, if_pos rfl, if_pos a]
      rfl
    · rw [if_neg a, if_neg (by omega), if_neg a]
      omega
  · rw [if_neg e, if_pos e, if_neg (by decide)]
    omega
theorem next_past {c : List Int} {la z r : Int} {g : Nat} (hl : c.getLast? = some la) (l : g + 1 ≤ c.length) (r1 : 1 ≤ r) (l0 : 0 ≤ la) (lz : la < z) (k : keptB c r = true) {p : Past} :
    p ∈ nextP z r (pastI g r c) ↔ ∃ h : Nat, h < z.toNat ∧ keptB (c ++ [(h : Int)]) r = true ∧ p = pastI g r (c ++ [(h : Int)]) := by
  have hh : (pastI g r c).1.headD 0 = la := heads_first hl
  have e1 : (pastI g r c).1 = headsI c (c.length - 1) g := rfl
  have len1 : (pastI g r c).1.length - 1 = g := by rw [e1, heads_len]; omega
  have hu : 0 ≤ holdI r c := by
    rw [hold_ago]
    split <;> omega
  unfold nextP turnsK
  rw [hh, len1]
  show p ∈ (if 0 < holdI r c then _ else _ : List (List Int × Int)).map _ ↔ _
  by_cases c0 : 0 < holdI r c
  · rw [if_pos c0, List.map_singleton, List.mem_singleton]
    constructor
    · rintro rfl
      refine ⟨la.toNat, by omega, ?_, ?_⟩
      · rw [show ((la.toNat : Nat) : Int) = la by omega]
        exact (kept_iff hl).mpr ⟨k, .inl rfl⟩
      · rw [show ((la.toNat : Nat) : Int) = la by omega, past_snoc hl l r1, if_pos rfl]
        show (la :: _, holdI r c - 1, _) = _
        congr 2
        omega
    · rintro ⟨h, hz, hk, rfl⟩
      have e : (h : Int) = la := by
        rcases ((kept_iff hl).mp hk).2 with e | e
        · exact e
        · omega
      rw [e, past_snoc hl l r1, if_pos rfl]
      show _ = (la :: _, holdI r c - 1, _)
      congr 2
      omega
  · rw [if_neg c0, List.map_map, List.mem_map]
    constructor
    · rintro ⟨h, hm, rfl⟩
      refine ⟨h, List.mem_range.mp hm, (kept_iff hl).mpr ⟨k, .inr (by omega)⟩, ?_⟩
      rw [past_snoc hl l r1]
      show ((h : Int) :: _, (if (h : Int) = la then (0 : Int) else r - 1), _) = _
      congr 2
      by_cases e : (h : Int) = la
      · rw [if_pos e, if_pos e]; omega
      · rw [if_neg e, if_neg e]
    · rintro ⟨h, hz, hk, rfl⟩
      refine ⟨h, List.mem_range.mpr hz, ?_⟩
      rw [past_snoc hl l r1]
      show ((h : Int) :: _, (if (h : Int) = la then (0 : Int) else r - 1), _) = _
      congr 2
      by_cases e : (h : Int) = la
      · rw [if_pos e, if_pos e]; omega
      · rw [if_neg e, if_neg e]

/-! ### courses that fit a log; that there are few pasts -/
def fitC (g : Int) (q : Int × Int) (c : List Int) : Bool := toldB q (headsI c (c.length - 1) g.toNat)
def lawC (z r g : Int) (qs : List (Int × Int)) : Nat → List (List Int)
  | 0 => begR z r g
  | k + 1 => (extR z.toNat ((lawC z r g qs k).filter (fitC g (qs.getD k (-1, -1))))).filter fun c => keptB c r
theorem lawC_in {z r g : Int} {qs : List (Int × Int)} (g0 : 0 ≤ g) : ∀ {k : Nat} {c : List Int}, c ∈ lawC z r g qs k → c.length = g.toNat + 1 + k ∧ (∀ x ∈ c, 0 ≤ x ∧ x < z) ∧ keptB c r = true
  | 0, c, h => by
    obtain ⟨h1, h2⟩ := List.mem_filter.mp h
    obtain ⟨a, b⟩ := allR_mem h1
    exact ⟨by omega, fun x hx => by have := b x hx; omega, h2⟩
  | k + 1, c, h => by
    obtain ⟨h1, h2⟩ := List.mem_filter.mp h
    obtain ⟨d, hd, x, hx, rfl⟩ := mem_extR.mp h1
    obtain ⟨a, b, _⟩ := lawC_in g0 (List.mem_filter.mp hd).1
    refine ⟨by rw [List.length_append, List.length_singleton]; omega, fun y hy => ?_, h2⟩
    rcases List.mem_append.mp hy with e | e
    · exact b y e
    · rw [List.mem_singleton.mp e]; omega
theorem last_is {c : List Int} {n : Nat} (h : c.length = n + 1) : ∃ la, c.getLast? = some la ∧ la ∈ c := by
  cases e : c.getLast? with
  | none =>
    rw [List.getLast?_eq_none_iff] at e
    rw [e] at h
    cases h
  | some la => exact ⟨la, rfl, List.mem_of_getLast? e⟩
theorem past_lawC {z r g : Int} {qs : List (Int × Int)} (g0 : 0 ≤ g) (r1 : 1 ≤ r) : ∀ {k : Nat} {p : Past}, p ∈ pastsL z r g qs k ↔ ∃ c ∈ lawC z r g qs k, p = pastI g.toNat r c
  | 0, p => by
    rw [pastsL, lawC, List.mem_map]
    exact ⟨fun ⟨c, h, e⟩ => ⟨c, h, e.symm⟩, fun ⟨c, h, e⟩ => ⟨c, h, e.symm⟩⟩
  | k + 1, p => by
    rw [pastsL, lawC, List.mem_flatMap]
    have nx : ∀ {c : List Int}, c ∈ lawC z r g qs k → (p ∈ nextP z r (pastI g.toNat r c) ↔ ∃ h : Nat, h < z.toNat ∧ keptB (c ++ [(h : Int)]) r = true ∧ p = pastI g.toNat r (c ++ [(h : Int)])) := fun {c} hc => by
      obtain ⟨a, b, kk⟩ := lawC_in g0 hc
      obtain ⟨la, hl, hm⟩ := last_is (n := g.toNat + k) (by omega : c.length = g.toNat + k + 1)
      exact next_past hl (by omega) r1 (b la hm).1 (b la hm).2 kk
    constructor
    · rintro ⟨q, hq, hp⟩
      obtain ⟨h1, h2⟩ := List.mem_filter.mp hq
      obtain ⟨c, hc, rfl⟩ := (past_lawC g0 r1).mp h1
      obtain ⟨h, hz, hk, e⟩ := (nx hc).mp hp
      exact ⟨c ++ [(h : Int)], List.mem_filter.mpr ⟨mem_extR.mpr ⟨c, List.mem_filter.mpr ⟨hc, h2⟩, h, hz, rfl⟩, hk⟩, e⟩
    · rintro ⟨c', hc', e⟩
      obtain ⟨h1, hk⟩ := List.mem_filter.mp hc'
      obtain ⟨c, hc, h, hz, rfl⟩ := mem_extR.mp h1
      obtain ⟨hc1, hc2⟩ := List.mem_filter.mp hc
      exact ⟨_, List.mem_filter.mpr ⟨(past_lawC g0 r1).mpr ⟨c, hc1, rfl⟩, hc2⟩, (nx hc1).mpr ⟨h, hz, hk, e⟩⟩
theorem fit_none {z r g : Int} {qs : List (Int × Int)} (g0 : 0 ≤ g) (r1 : 1 ≤ r) {k : Nat} : ((pastsL z r g qs k).filter fun p => toldB (qs.getD k (-1, -1)) p.1).isEmpty = ((lawC z r g qs k).filter (fitC g (qs.getD k (-1, -1)))).isEmpty := by
  rw [Bool.eq_iff_iff, List.isEmpty_iff, List.isEmpty_iff, List.filter_eq_nil_iff, List.filter_eq_nil_iff]
  constructor
  · intro h c hc
    exact h _ ((past_lawC g0 r1).mpr ⟨c, hc, rfl⟩)
  · intro h p hp
    obtain ⟨c, hc, rfl⟩ := (past_lawC g0 r1).mp hp
    exact h c hc
theorem none_lawC {z r g : Int} {qs : List (Int × Int)} (g0 : 0 ≤ g) (r1 : 1 ≤ r) : noneAt z r g qs = (List.range qs.length).find? fun k => ((lawC z r g qs k).filter (fitC g (qs.getD k (-1, -1)))).isEmpty := by
  unfold noneAt
  congr 1
  funext k
  exact fit_none g0 r1
/-- how long ago, from the newest on -/
def agoR : List Int → Int
  | [] => -1
  | [_] => -1
  | x :: y :: t => if x ≠ y then 0 else if agoR (y :: t) = -1 then -1 else agoR (y :: t) + 1
theorem ago_rev : ∀ {l : List Int}, l ≠ [] → agoI l.reverse = agoR l
  | [], h => absurd rfl h
  | [x], _ => rfl
  | x :: y :: t, _ => by
    have ih := ago_rev (l := y :: t) (by simp)
    rw [List.reverse_cons, ago_snoc (la := y) (by simp), ih]
    rfl
theorem agoR_ge : ∀ l : List Int, -1 ≤ agoR l
  | [] => by decide
  | [_] => by simp [agoR]
  | x :: y :: t => by
    have := agoR_ge (y :: t)
    simp only [agoR]
    split
    · decide
    · split <;> omega
theorem agoR_take : ∀ {l : List Int} {n : Nat}, agoR (l.take n) ≠ -1 → agoR l = agoR (l.take n)
  | [], n, h => by rw [List.take_nil]
  | [x], 0, h => absurd rfl h
  | [x], n + 1, h => by simp
  | x :: y :: t, 0, h => absurd rfl h
  | x :: y :: t, 1, h => absurd rfl h
  | x :: y :: t, n + 2, h => by
    have ih := agoR_take (l := y :: t) (n := n + 1)
    simp only [List.take_succ_cons, agoR] at h ih ⊢
    by_cases e : x ≠ y
    · rw [if_pos e, if_pos e]
    · rw [if_neg e] at h ⊢
      rw [if_neg e]
      by_cases a : agoR (y :: t.take n) = -1
      · rw [if_pos a] at h
        exact absurd rfl h
      · rw [ih a]
theorem agoR_const : ∀ {l : List Int}, agoR l = -1 → ∀ x ∈ l, x = l.headD 0
  | [], _, x, hx => absurd hx List.not_mem_nil
  | [y], _, x, hx => List.mem_singleton.mp hx
  | y :: u :: t, h, x, hx => by
    simp only [agoR] at h
    by_cases e : y = u
    · rw [if_neg (fun z => z e)] at h
      have h2 : agoR (u :: t) = -1 := by
        have := agoR_ge (u :: t)
        by_cases a : agoR (u :: t) = -1
        · exact a
        · rw [if_neg a] at h
          omega
      rcases List.mem_cons.mp hx with rfl | hx
      · rfl
      · have := agoR_const h2 x hx
        rw [this, List.headD_cons, List.headD_cons, e]
    · rw [if_pos e] at h
      cases h
theorem heads_take {c : List Int} {g : Nat} (h : g + 1 ≤ c.length) : headsI c (c.length - 1) g = c.reverse.take (g + 1) := by
  refine List.ext_getElem? fun i => ?_
  unfold headsI
  rw [List.getElem?_map]
  by_cases e : i < g + 1
  · rw [List.getElem?_range e, List.getElem?_take_of_lt e, List.getElem?_reverse (by omega)]
    show some (c.getD (c.length - 1 - i) 0) = _
    rw [List.getD_eq_getElem?_getD, List.getElem?_eq_getElem (by omega)]
    rfl
  · rw [List.getElem?_eq_none (by rw [List.length_range]; omega), List.getElem?_eq_none (by rw [List.length_take]; omega)]
    rfl
theorem allR_all {z : Nat} : ∀ {n : Nat} {row : List Int}, row.length = n → (∀ x ∈ row, 0 ≤ x ∧ x < (z : Int)) → row ∈ allR z n
  | 0, row, h, _ => by rw [List.eq_nil_of_length_eq_zero h]; exact List.mem_singleton.mpr rfl
  | n + 1, row, h, hz => by
    have ne : row ≠ [] := fun e => by rw [e] at h; cases h
    have e := List.dropLast_concat_getLast ne
    have m := hz _ (List.getLast_mem ne)
    refine mem_extR.mpr ⟨row.dropLast, allR_all (by rw [List.length_dropLast, h]; omega) fun x hx => hz x (List.dropLast_subset _ hx), (row.getLast ne).toNat, by omega, ?_⟩
    rw [show (((row.getLast ne).toNat : Nat) : Int) = row.getLast ne by omega]
    exact e.symm
def keyP (p : Past) : List Int × Int := (p.1, if agoR p.1 = -1 then p.2.2 else -1)
theorem keyP_inj {g : Nat} {r : Int} {c d : List Int} (lc : g + 1 ≤ c.length) (ld : g + 1 ≤ d.length) (h : keyP (pastI g r c) = keyP (pastI g r d)) : pastI g r c = pastI g r d := by
  have cn : c.reverse ≠ [] := fun e => by rw [List.reverse_eq_nil_iff] at e; rw [e] at lc; cases lc
  have dn : d.reverse ≠ [] := fun e => by rw [List.reverse_eq_nil_iff] at e; rw [e] at ld; cases ld
  have ac := ago_rev cn
  have ad := ago_rev dn
  rw [List.reverse_reverse] at ac ad
  have eh : headsI c (c.length - 1) g = headsI d (d.length - 1) g := congrArg Prod.fst h
  have ea : agoI c = agoI d := by
    have h2 : (if agoR (headsI c (c.length - 1) g) = -1 then agoI c else -1) = (if agoR (headsI d (d.length - 1) g) = -1 then agoI d else -1) := congrArg Prod.snd h
    rw [← eh] at h2
    by_cases a : agoR (headsI c (c.length - 1) g) = -1
    · rw [if_pos a, if_pos a] at h2
      exact h2
    · have a2 := a
      rw [heads_take lc] at a
      rw [eh, heads_take ld] at a2
      rw [ac, ad, agoR_take a, agoR_take a2, ← heads_take lc, ← heads_take ld, eh]
  unfold pastI
  rw [eh, hold_ago, hold_ago, ea]
theorem few_pasts {z r g : Int} {qs : List (Int × Int)} (hz : HouseOf 81 z r g) (lq : qs.length ≤ 30) : FewPasts z r g qs := by
  obtain ⟨z2, z4, r1, r6, g0, g3, _⟩ := id hz
  intro k hk D nd sub
  have form : ∀ d ∈ D, ∃ c ∈ lawC z r g qs k, d = pastI g.toNat r c := fun d hd => (past_lawC g0 r1).mp (sub d hd)
  have nd2 : (D.map keyP).Nodup := by
    refine List.Pairwise.map _ ?_ (List.Pairwise.imp_of_mem (R := fun a b => a ≠ b) (S := fun a b => keyP a ≠ keyP b) (fun {a b} ha hb ne e => ne ?_) nd)
    · exact fun a b h => h
    · obtain ⟨c, hc, rfl⟩ := form a ha
      obtain ⟨d, hd, rfl⟩ := form b hb
      have l1 := (lawC_in g0 hc).1
      have l2 := (lawC_in g0 hd).1
      exact keyP_inj (by omega) (by omega) e
  have lA := allR_small hz (g + 1).toNat (Nat.le_refl _)
  have sub2 : ∀ x ∈ D.map keyP, x ∈ (allR z.toNat (g + 1).toNat).map (fun a => (a, (-1 : Int))) ++ (List.range z.toNat).flatMap fun h : Nat => (List.range 36).map fun a : Nat => (List.replicate (g.toNat + 1) (h : Int), (a : Int)) := fun x hx => by
    obtain ⟨d, hd, rfl⟩ := List.mem_map.mp hx
    obtain ⟨c, hc, rfl⟩ := form d hd
    obtain ⟨lc, cz, _⟩ := lawC_in g0 hc
    have hin : ∀ x ∈ headsI c (c.length - 1) g.toNat, 0 ≤ x ∧ x < z := fun x hx => by
      rw [heads_take (by omega)] at hx
      exact cz x (List.mem_reverse.mp (List.mem_of_mem_take hx))
    have hl : (headsI c (c.length - 1) g.toNat).length = g.toNat + 1 := heads_len
    by_cases e : (keyP (pastI g.toNat r c)).2 = -1
    · refine List.mem_append_left _ (List.mem_map.mpr ⟨headsI c (c.length - 1) g.toNat, allR_all (by rw [hl]; omega) fun x hx => by have := hin x hx; omega, ?_⟩)
      exact Prod.ext rfl e.symm
    · refine List.mem_append_right _ (List.mem_flatMap.mpr ?_)
      have e2 : (if agoR (headsI c (c.length - 1) g.toNat) = -1 then agoI c else -1) ≠ -1 := e
      by_cases a : agoR (headsI c (c.length - 1) g.toNat) = -1
      · rw [if_pos a] at e2
        have ai := ago_in c
        obtain ⟨la, hla, hm⟩ := last_is (n := g.toNat + k) (by omega : c.length = g.toNat + k + 1)
        have hf := heads_first (g := g.toNat) hla
        have hc0 := agoR_const a
        rw [hf] at hc0
        have lz := cz la hm
        refine ⟨la.toNat, List.mem_range.mpr (by omega), List.mem_map.mpr ⟨(agoI c).toNat, List.mem_range.mpr (by omega), ?_⟩⟩
        refine Prod.ext ?_ ?_
        · show List.replicate (g.toNat + 1) ((la.toNat : Nat) : Int) = headsI c (c.length - 1) g.toNat
          rw [show ((la.toNat : Nat) : Int) = la by omega]
          exact (List.eq_replicate_iff.mpr ⟨hl, hc0⟩).symm
        · show (((agoI c).toNat : Nat) : Int) = if agoR (headsI c (c.length - 1) g.toNat) = -1 then agoI c else -1
          rw [if_pos a]
          omega
      · rw [if_neg a] at e2
        exact absurd rfl e2
  have zz := List.Nodup.length_le_of_subset nd2 fun x hx => sub2 x hx
  have f := flat_many (f := fun h : Nat => (List.range 36).map fun a : Nat => (List.replicate (g.toNat + 1) (h : Int), (a : Int))) (b := 36) (l := List.range z.toNat) fun x _ => by rw [List.length_map, List.length_range]; exact Nat.le_refl _
  rw [List.length_map, List.length_append, List.length_map] at zz
  rw [List.length_range] at f
  omega
theorem heads_z {z r g : Int} {qs : List (Int × Int)} (g0 : 0 ≤ g) (r1 : 1 ≤ r) {k : Nat} : ∀ p ∈ pastsL z r g qs k, 0 ≤ p.1.headD 0 ∧ p.1.headD 0 < z := fun p hp => by
  obtain ⟨c, hc, rfl⟩ := (past_lawC g0 r1).mp hp
  obtain ⟨lc, cz, _⟩ := lawC_in g0 hc
  obtain ⟨la, hla, hm⟩ := last_is (n := g.toNat + k) (by omega : c.length = g.toNat + k + 1)
  have hf : (pastI g.toNat r c).1.headD 0 = la := heads_first (g := g.toNat) hla
  rw [hf]
  exact cz la hm

/-! ### worlds told by how long ago the head changed -/
def ageV (a : Int) : V := if a = -1 then .non else .int a
def ageD (a : Int) : PyData := if a = -1 then .none else .int a
theorem age_dp {K : PySem.W.Frag} {H : Hp} (a : Int) : Dp K H (ageV a) (ageD a) := by
  unfold ageV ageD
  split
  · exact .non
  · exact .int _
abbrev Wa : Type := List Int × Int
def waD (p : Wa) : PyData := .tuple [.tuple (p.1.map PyData.int), ageD p.2]
theorem ageD_inj {a b : Int} (h : ageD a = ageD b) : a = b := by
  unfold ageD at h
  split at h
  · split at h
    · omega
    · cases h
  · split at h
    · cases h
    · exact PyData.int.inj h
theorem intsD_inj : ∀ {a b : List Int}, a.map PyData.int = b.map PyData.int → a = b
  | [], [], _ => rfl
  | [], _ :: _, h => by cases h
  | _ :: _, [], h => by cases h
  | x :: a, y :: b, h => by
    simp only [List.map_cons, List.cons.injEq, PyData.int.injEq] at h
    rw [h.1, intsD_inj h.2]
theorem waD_inj {p q : Wa} (h : waD p = waD q) : p = q := by
  simp only [waD, PyData.tuple.injEq, List.cons.injEq, and_true] at h
  exact Prod.ext (intsD_inj h.1) (ageD_inj h.2)
theorem waD_key (p : Wa) : isKeyD (waD p) = true := by
  have : isKeyD (ageD p.2) = true := by unfold ageD; split <;> rfl
  simp only [waD, isKeyD, isKeyDs, key_ints, this, Bool.and_self]
theorem waD_deep (p : Wa) : (waD p).depth ≤ 8 := by
  have : (ageD p.2).depth = 0 := by unfold ageD; split <;> simp only [PyData.depth]
  simp only [waD, PyData.depth, PyData.depthAll, ints_deep, this]
  decide
def nextA (z r : Int) (p : Wa) : List Wa := [(p.1.headD 0 :: p.1.take (p.1.length - 1), if p.2 = -1 then -1 else p.2 + 1)] ++
  if p.2 = -1 ∨ r ≤ p.2 + 1 then ((List.range z.toNat).filter fun y : Nat => !decide ((y : Int) = p.1.headD 0)).map fun y : Nat => ((y : Int) :: p.1.take (p.1.length - 1), 0) else []
def projA (p : Past) : Wa := (p.1, p.2.2)
def AgedP (r : Int) (p : Past) : Prop := p.2.1 = (if p.2.2 = -1 then 0 else max 0 (r - 1 - p.2.2)) ∧ -1 ≤ p.2.2
theorem next_aged {z r : Int} {p q : Past} (r1 : 1 ≤ r) (h : AgedP r p) (hq : q ∈ nextP z r p) : AgedP r q ∧ projA q ∈ nextA z r (projA p) := by
  obtain ⟨h1, h2⟩ := h
  unfold nextP at hq
  obtain ⟨t, ht, rfl⟩ := List.mem_map.mp hq
  unfold turnsK at ht
  unfold AgedP projA nextA
  dsimp only
  split at ht
  · rename_i c
    obtain rfl := List.mem_singleton.mp ht
    have n1 : p.2.2 ≠ -1 := fun e => by rw [if_pos e] at h1; omega
    rw [if_neg n1] at h1
    have e0 : ¬ (p.1.headD 0 :: p.1.take (p.1.length - 1)).headD 0 ≠ p.1.headD 0 := fun z => z rfl
    dsimp only
    rw [if_neg e0, if_neg n1]
    refine ⟨⟨?_, by omega⟩, List.mem_append_left _ (List.mem_singleton.mpr rfl)⟩
    rw [if_neg (by omega)]
    omega
  · rename_i c
    obtain ⟨k, hk, rfl⟩ := List.mem_map.mp ht
    have e0 : ((k : Int) :: p.1.take (p.1.length - 1)).headD 0 = (k : Int) := rfl
    dsimp only
    rw [e0]
    have may : p.2.2 = -1 ∨ r ≤ p.2.2 + 1 := by
      by_cases n1 : p.2.2 = -1
      · exact .inl n1
      · rw [if_neg n1] at h1
        omega
    by_cases e : (k : Int) = p.1.headD 0
    · have e1 : (if (k : Int) ≠ p.1.headD 0 then (0 : Int) else if p.2.2 = -1 then -1 else p.2.2 + 1) = if p.2.2 = -1 then -1 else p.2.2 + 1 := if_neg (fun z => z e)
      simp only [e1]
      rw [if_pos e]
      refine ⟨⟨?_, ?_⟩, List.mem_append_left _ (List.mem_singleton.mpr (by rw [e]))⟩
      · by_cases n1 : p.2.2 = -1
        · rw [if_pos n1, if_pos rfl]
        · rw [if_neg n1] at h1 ⊢
          rw [if_neg (by omega)]
          omega
      · split <;> omega
    · have e1 : (if (k : Int) ≠ p.1.headD 0 then (0 : Int) else if p.2.2 = -1 then -1 else p.2.2 + 1) = 0 := if_pos e
      simp only [e1]
      rw [if_neg e]
      refine ⟨⟨by rw [if_neg (by decide)]; omega, by decide⟩, List.mem_append_right _ ?_⟩
      rw [if_pos may]
      exact List.mem_map.mpr ⟨k, List.mem_filter.mpr ⟨hk, by rw [decide_eq_false e]; rfl⟩, rfl⟩
theorem next_back {z r : Int} {p : Past} (h : AgedP r p) (x0 : 0 ≤ p.1.headD 0) (xz : p.1.headD 0 < z) {w : Wa} (hw : w ∈ nextA z r (projA p)) : ∃ q ∈ nextP z r p, projA q = w := by
  obtain ⟨h1, h2⟩ := h
  unfold nextA projA at hw
  dsimp only at hw
  unfold nextP turnsK
  by_cases c : 0 < p.2.1
  · rw [if_pos c]
    have n1 : p.2.2 ≠ -1 := fun e => by rw [if_pos e] at h1; omega
    rw [if_neg n1] at h1
    rw [if_neg (show ¬ (p.2.2 = -1 ∨ r ≤ p.2.2 + 1) by omega), List.append_nil] at hw
    obtain rfl := List.mem_singleton.mp hw
    refine ⟨_, List.mem_map.mpr ⟨_, List.mem_singleton.mpr rfl, rfl⟩, ?_⟩
    show (p.1.headD 0 :: p.1.take (p.1.length - 1), if p.1.headD 0 ≠ p.1.headD 0 then 0 else if p.2.2 = -1 then -1 else p.2.2 + 1) = _
    have e1 : (if p.1.headD 0 ≠ p.1.headD 0 then (0 : Int) else if p.2.2 = -1 then -1 else p.2.2 + 1) = if p.2.2 = -1 then -1 else p.2.2 + 1 := if_neg (fun z => z rfl)
    rw [e1]
  · rw [if_neg c]
    rcases List.mem_append.mp hw with hw | hw
    · obtain rfl := List.mem_singleton.mp hw
      refine ⟨_, List.mem_map.mpr ⟨_, List.mem_map.mpr ⟨(p.1.headD 0).toNat, List.mem_range.mpr (by omega), rfl⟩, rfl⟩, ?_⟩
      have e : (((p.1.headD 0).toNat : Nat) : Int) = p.1.headD 0 := by omega
      show ((((p.1.headD 0).toNat : Nat) : Int) :: p.1.take (p.1.length - 1), if (((p.1.headD 0).toNat : Nat) : Int) ≠ p.1.headD 0 then 0 else if p.2.2 = -1 then -1 else p.2.2 + 1) = _
      rw [e, if_neg (fun z => z rfl)]
    · split at hw
      · obtain ⟨k, hk, rfl⟩ := List.mem_map.mp hw
        obtain ⟨hk1, hk2⟩ := List.mem_filter.mp hk
        have ne : (k : Int) ≠ p.1.headD 0 := by simpa using hk2
        refine ⟨_, List.mem_map.mpr ⟨_, List.mem_map.mpr ⟨k, hk1, rfl⟩, rfl⟩, ?_⟩
        show ((k : Int) :: p.1.take (p.1.length - 1), if (k : Int) ≠ p.1.headD 0 then 0 else if p.2.2 = -1 then -1 else p.2.2 + 1) = _
        rw [if_pos ne]
      · exact absurd hw List.not_mem_nil
theorem past_aged {z r g : Int} {qs : List (Int × Int)} (r1 : 1 ≤ r) (g0 : 0 ≤ g) : ∀ k, ∀ p ∈ pastsL z r g qs k, AgedP r p
  | 0, p, hp => by
    obtain ⟨ns, hns, rfl⟩ := List.mem_map.mp hp
    unfold AgedP pastI holdI agoI
    dsimp only
    cases e : (changesI ns).getLast? with
    | none =>
      refine ⟨?_, ?_⟩
      · show (0 : Int) = if (-1 : Int) = -1 then 0 else _
        rw [if_pos rfl]
      · show (-1 : Int) ≤ -1
        decide
    | some c =>
      have := changes_in (List.mem_of_getLast? e)
      have n1 : (ns.length : Int) - 1 - c ≠ -1 := by omega
      refine ⟨?_, ?_⟩
      · show max 0 (r - 1 - ((ns.length : Int) - 1 - c)) = if (ns.length : Int) - 1 - c = -1 then 0 else max 0 (r - 1 - ((ns.length : Int) - 1 - c))
        rw [if_neg n1]
      · show -1 ≤ (ns.length : Int) - 1 - c
        omega
  | k + 1, p, hp => by
    obtain ⟨q, hq, hp⟩ := List.mem_flatMap.mp hp
    exact (next_aged r1 (past_aged r1 g0 k q (List.mem_filter.mp hq).1) hp).1
/-- the law's worlds behind so many pairs, as a set -/
def WorldP (z r g : Int) (qs : List (Int × Int)) (k : Nat) (w : Wa) : Prop := ∃ p ∈ pastsL z r g qs k, projA p = w
theorem world_next {z r g : Int} {qs : List (Int × Int)} (r1 : 1 ≤ r) (g0 : 0 ≤ g) {k : Nat} {w : Wa} : WorldP z r g qs (k + 1) w ↔ ∃ v, WorldP z r g qs k v ∧ toldB (qs.getD k (-1, -1)) v.1 = true ∧ w ∈ nextA z r v := by
  constructor
  · rintro ⟨p, hp, rfl⟩
    obtain ⟨q, hq, hp⟩ := List.mem_flatMap.mp hp
    obtain ⟨hq1, hq2⟩ := List.mem_filter.mp hq
    exact ⟨projA q, ⟨q, hq1, rfl⟩, hq2, (next_aged r1 (past_aged r1 g0 k q hq1) hp).2⟩
  · rintro ⟨v, ⟨p, hp, rfl⟩, ht, hw⟩
    have iz := heads_z (qs := qs) g0 r1 p hp
    obtain ⟨q, hq, e⟩ := next_back (past_aged r1 g0 k p hp) iz.1 iz.2 hw
    exact ⟨q, List.mem_flatMap.mpr ⟨p, List.mem_filter.mpr ⟨hp, ht⟩, hq⟩, e⟩
theorem world_first {z r : Int} {gn : Nat} {qs : List (Int × Int)} {w : Wa} : WorldP z r (gn : Int) qs 0 w ↔ ∃ ns ∈ begR z r (gn : Int), (ns.reverse, agoI ns) = w := by
  have e : ∀ ns ∈ begR z r (gn : Int), projA (pastI ((gn : Int)).toNat r ns) = (ns.reverse, agoI ns) := fun ns hns => by
    have l := (allR_mem (List.mem_filter.mp hns).1).1
    have l' : ns.length = gn + 1 := by omega
    unfold projA pastI
    dsimp only
    rw [Int.toNat_natCast, heads_take (by omega), List.take_of_length_le (by rw [List.length_reverse]; omega)]
  constructor
  · rintro ⟨p, hp, rfl⟩
    obtain ⟨ns, hns, rfl⟩ := List.mem_map.mp hp
    exact ⟨ns, hns, (e ns hns).symm⟩
  · rintro ⟨ns, hns, rfl⟩
    exact ⟨_, List.mem_map.mpr ⟨ns, hns, rfl⟩, e ns hns⟩
theorem few_wa {z r g : Int} {qs : List (Int × Int)} (few : FewPasts z r g qs) {k : Nat} (hk : k ≤ qs.length) {D : List Wa} (nd : D.Nodup) (sub : ∀ d ∈ D, WorldP z r g qs k d) : D.length < 299 := by
  obtain ⟨E, e1, e2, e3⟩ : ∃ E : List Past, E.map projA = D ∧ E.Nodup ∧ ∀ p ∈ E, p ∈ pastsL z r g qs k := by
    clear few
    induction D with
    | nil => exact ⟨[], rfl, .nil, fun p hp => absurd hp List.not_mem_nil⟩
    | cons d D ih =>
      obtain ⟨n1, n2⟩ := List.nodup_cons.mp nd
      obtain ⟨E, e1, e2, e3⟩ := ih n2 fun x hx => sub x (List.mem_cons_of_mem _ hx)
      obtain ⟨p, hp, ep⟩ := sub d List.mem_cons_self
      refine ⟨p :: E, by rw [List.map_cons, e1, ep], List.nodup_cons.mpr ⟨fun h => n1 ?_, e2⟩, fun x hx => ?_⟩
      · rw [← e1, ← ep]
        exact List.mem_map_of_mem h
      · rcases List.mem_cons.mp hx with rfl | hx
        · exact hp
        · exact e3 x hx
  have := few k hk E e2 e3
  rw [← e1, List.length_map]
  exact this
theorem wa_long {z r : Int} {gn : Nat} {qs : List (Int × Int)} {k : Nat} {w : Wa} (h : WorldP z r (gn : Int) qs k w) : w.1.length = gn + 1 := by
  obtain ⟨p, hp, rfl⟩ := h
  exact pastsL_long k p hp
/-! ### such worlds as objects -/
theorem FrzT.same {H J : Hp} {a : Addr} {xs : List V} (h : FrzT H a xs) (s : Same H J) : FrzT J a xs := let ⟨o, c, d, e⟩ := h; ⟨o, c, d, s _ _ e⟩
def WaAt (K : PySem.W.Frag) (J : Hp) (v : V) (p : Wa) : Prop := ∃ b c : Addr, v = .ref b ∧ SqT K J b [.ref c, ageV p.2] ∧ FrzT J c (p.1.map V.int)
abbrev WasAt (K : PySem.W.Frag) (J : Hp) : List V → List Wa → Prop := Paired (WaAt K J)
theorem WaAt.dp {K : PySem.W.Frag} {J : Hp} {v : V} {p : Wa} (h : WaAt K J v p) : Dp K J v (waD p) := by
  obtain ⟨b, c, rfl, h1, h2⟩ := h
  exact .tup h1 (.cons (.tup h2.sq (ints_dp _)) (.cons (age_dp _) .nil))
theorem WaAt.same {K : PySem.W.Frag} {H J : Hp} {v : V} {p : Wa} (h : WaAt K H v p) (s : Same H J) : WaAt K J v p := by
  obtain ⟨b, c, e, h1, h2⟩ := h
  exact ⟨b, c, e, sameT s h1, FrzT.same h2 s⟩
theorem WaAt.putN {K : PySem.W.Frag} {J : Hp} {D : Addr} {v : V} {p : Wa} {u o : HO} (h : WaAt K J v p) (hD : J D = some u) (nt : ∀ xs, u ≠ .tup xs) (nf : ∀ o' xs, u ≠ .frz o' (.tup xs)) : WaAt K (upd J D o) v p := by
  obtain ⟨b, c, e, h1, ⟨o', c', d', h2⟩⟩ := h
  refine ⟨b, c, e, ?_, ⟨o', c', d', by rw [upd_ne (ne_of h2 hD (fun z => nf _ _ z.symm))]; exact h2⟩⟩
  rcases h1 with (h | ⟨o2, h⟩) | h
  · exact Or.inl (Or.inl (by rw [upd_ne (ne_of h hD (fun z => nt _ z.symm))]; exact h))
  · exact Or.inl (Or.inr ⟨o2, by rw [upd_ne (ne_of h hD (fun z => nf _ _ z.symm))]; exact h⟩)
  · exact Or.inr h
theorem WaAt.put {K : PySem.W.Frag} {J : Hp} {D : Addr} {v : V} {p : Wa} {ys : List V} {o : HO} (h : WaAt K J v p) (hD : J D = some (.lst ys)) : WaAt K (upd J D o) v p := h.putN hD (fun _ z => by cases z) (fun _ _ z => by cases z)
theorem pairW_app {α β : Type} {F : α → β → Prop} : ∀ {as cs : List α} {bs ds : List β}, Paired F as bs → Paired F cs ds → Paired F (as ++ cs) (bs ++ ds)
  | _, _, _, _, .nil, h => h
  | _, _, _, _, .cons r t, h => .cons r (pairW_app t h)
theorem paired_mono {α β : Type} {F G : α → β → Prop} (h : ∀ a b, F a b → G a b) : ∀ {as : List α} {bs : List β}, Paired F as bs → Paired G as bs
  | _, _, .nil => .nil
  | _, _, .cons r t => .cons (h _ _ r) (paired_mono h t)
theorem WasAt.same {K : PySem.W.Frag} {H J : Hp} {vs : List V} {ps : List Wa} (h : WasAt K H vs ps) (s : Same H J) : WasAt K J vs ps := paired_mono (fun _ _ x => x.same s) h
/-- a dict of worlds -/
abbrev Memo := List (PyData × Addr × V)
def DictWa (K : PySem.W.Frag) (w : World) (H : Hp) (D : Addr) (ps : List Wa) : Prop := ∃ L : Memo, H D = some (DictKO w D L) ∧ L.map Prod.fst = ps.map waD ∧ WasAt K H (L.map fun q => V.ref q.2.1) ps
theorem wasAt_get {K : PySem.W.Frag} {H : Hp} : ∀ {L : Memo} {ps : List Wa}, L.map Prod.fst = ps.map waD → WasAt K H (L.map fun q => V.ref q.2.1) ps → ∀ q ∈ L, ∃ p, q.1 = waD p ∧ WaAt K H (.ref q.2.1) p
  | [], _, _, _, q, hq => absurd hq List.not_mem_nil
  | x :: L, [], e, _, _, _ => by cases e
  | x :: L, p :: ps, e, .cons h t, q, hq => by
    simp only [List.map_cons, List.cons.injEq] at e
    rcases List.mem_cons.mp hq with rfl | hq
    · exact ⟨p, e.1, h⟩
    · exact wasAt_get e.2 t q hq
theorem DictWa.keys {K : PySem.W.Frag} {H : Hp} {L : Memo} {ps : List Wa} (e : L.map Prod.fst = ps.map waD) (h : WasAt K H (L.map fun q => V.ref q.2.1) ps) : KeysD K H L := fun q hq => by
  obtain ⟨p, e1, h1⟩ := wasAt_get e h q hq
  rw [e1]
  exact ⟨waD_key p, waD_deep p, h1.dp⟩
theorem DictWa.same {K : PySem.W.Frag} {w : World} {H J : Hp} {D : Addr} {ps : List Wa} (h : DictWa K w H D ps) (s : Same H J) : DictWa K w J D ps := by
  obtain ⟨L, h1, h2, h3⟩ := h
  exact ⟨L, s _ _ h1, h2, h3.same s⟩
def addW (ps : List Wa) (p : Wa) : List Wa := if p ∈ ps then ps else ps ++ [p]
theorem mem_addW {ps : List Wa} {p x : Wa} : x ∈ addW ps p ↔ x ∈ ps ∨ x = p := by
  unfold addW
  split
  · rename_i h
    exact ⟨.inl, fun h' => h'.elim id fun e => by rw [e]; exact h⟩
  · rw [List.mem_append, List.mem_singleton]
theorem addW_nodup {ps : List Wa} {p : Wa} (h : ps.Nodup) : (addW ps p).Nodup := by
  unfold addW
  split
  · exact h
  · rename_i n
    rw [List.nodup_append]
    exact ⟨h, by simp, fun a ha b hb => by rw [List.mem_singleton.mp hb]; exact fun e => n (e ▸ ha)⟩
theorem addW_len {ps : List Wa} {p : Wa} : (addW ps p).length ≤ ps.length + 1 := by
  unfold addW
  split
  · omega
  · rw [List.length_append, List.length_singleton]
    omega
theorem DictWa.new {K : PySem.W.Frag} {w : World} {H : Hp} {D : Addr} : DictWa K w (upd H D (DictKO w D [])) D [] := ⟨[], upd_same, rfl, .nil⟩
theorem DictWa.put {K : PySem.W.Frag} {w : World} {H : Hp} {D b : Addr} {L M : Memo} {ps : List Wa} {p : Wa} {v : V} (hD : H D = some (DictKO w D L)) (e : L.map Prod.fst = ps.map waD) (al : WasAt K H (L.map fun q => V.ref q.2.1) ps) (hp : WaAt K H (.ref b) p) (m : PutD L (waD p) b v M) :
    DictWa K w (upd H D (DictKO w D M)) D (addW ps p) := by
  have pt : ∀ {v : V} {p : Wa}, WaAt K H v p → WaAt K (upd H D (DictKO w D M)) v p := fun h => h.putN hD (fun xs z => by unfold DictKO at z; cases z) (fun o' xs z => by unfold DictKO at z; cases z)
  have al' : WasAt K (upd H D (DictKO w D M)) (L.map fun q => V.ref q.2.1) ps := paired_mono (fun _ _ => pt) al
  have key : waD p ∈ L.map Prod.fst ↔ p ∈ ps := by
    rw [e, List.mem_map]
    exact ⟨fun ⟨x, hx, ex⟩ => waD_inj ex ▸ hx, fun h => ⟨p, h, rfl⟩⟩
  rcases m with ⟨n, rfl⟩ | ⟨y, rfl⟩
  · refine ⟨_, upd_same, ?_, ?_⟩
    · unfold addW
      rw [if_neg (fun h => n (key.mpr h)), List.map_append, List.map_append, e]
      rfl
    · unfold addW
      rw [if_neg (fun h => n (key.mpr h)), List.map_append]
      exact pairW_app al' (.cons (pt hp) .nil)
  · refine ⟨_, upd_same, ?_, ?_⟩
    · unfold addW
      rw [if_pos (key.mp y), List.map_map, ← e]
      refine List.map_congr_left fun q _ => ?_
      show Prod.fst (if keyOf q.1 = keyOf (waD p) then (q.1, q.2.1, v) else q) = q.1
      split <;> rfl
    · unfold addW
      rw [if_pos (key.mp y), List.map_map]
      have eq : (L.map ((fun q => V.ref q.2.1) ∘ fun q => if keyOf q.1 = keyOf (waD p) then (q.1, q.2.1, v) else q)) = L.map fun q => V.ref q.2.1 := List.map_congr_left fun q _ => by
        show V.ref (if keyOf q.1 = keyOf (waD p) then (q.1, q.2.1, v) else q).2.1 = V.ref q.2.1
        split <;> rfl
      rw [eq]
      exact al'


/-! ### the law's own word on who may be named, from the heads -/
theorem ahead_first {s : Int} : ∀ {ns : List Int}, s ∈ ns → ∃ j, ns[j]? = some s ∧ (∀ m, m < j → ns[m]? ≠ some s) ∧ ahead s ns = ns.take j
  | x :: r, h => by
    by_cases e : x = s
    · exact ⟨0, by simp [e], fun m hm => absurd hm (Nat.not_lt_zero m), by simp [ahead, e]⟩
    · rcases List.mem_cons.mp h with z | z
      · exact absurd z.symm e
      · obtain ⟨j, h1, h2, h3⟩ := ahead_first z
        refine ⟨j + 1, by simpa using h1, fun m hm => ?_, by simp only [ahead, if_neg e, List.take_succ_cons, h3]⟩
        cases m with
        | zero => simpa using e
        | succ m => simpa using h2 m (by omega)
def sp_said (K : PySem.W.Frag) : Sp := fun vs H Q _ => ∃ (a : Addr) (s : Int) (ns : List Int), vs = [.ref a, .int s] ∧ FrzT H a (ns.map V.int) ∧ ns.length < 60 ∧
  ∀ (out : List Int) (t : Addr) (J : Hp), Sorted out (ahead s ns) → Same H J → J t = some (.tup (out.map V.int)) → Q (.ref t) J
section
variable {P : Program} {w : World} {K : PySem.W.Frag} {mg : Str → Option Value} {base : Heap}
theorem ok_said (T : Txt K mg) : FnOk P w K mg base CX0 1 T.a_said T.d_said ["_law_heads", "_law_server"] (sp_said K) := by
  refine T.F_said.ok sc_said (fun vs H Q E h => ?_) (fun cdv A outer st H vs Q E hr h => ?_)
  · obtain ⟨a, s, ns, rfl, _⟩ := h
    rfl
  · obtain ⟨a, s, ns, rfl, hf, hl, k⟩ := h
    have hx : SqT K H a (ns.map V.int) := hf.sq
    refine ⟨_, (pss_cons (ps_set (i := 2) sc_said.nd rfl (Or.inl rfl) (pe_ifExp (pt_cmpR op_in_seq (pv 1) (pv 0) (by rfl)) (pe_slice sl_tupS (pv 0) po_none (po_some (pe_bmT PySem.F.slot_tuple_index PySem.F.type_tuple_index mt_idxT (pv 0) (pa_cons (pv 1) pa_nil)))) (pv 0)))
      (pss_one (ps_ret (pe_callTy (T := "tuple") call_tuple_of (by rfl) T.m_tuple (by decide +kernel) (pa_cons (pe_callB (id := "sorted") (cr_sortedSet rfl) (by rfl) T.m_sorted (by decide +kernel) (pa_cons (pe_callTy (T := "set") (cr_setN rfl) (by rfl) T.m_set (by decide +kernel) (pa_cons (pv 2) pa_nil)) pa_nil)) pa_nil))))), ?_⟩
    have ll : (ns.map V.int).length = ns.length := List.length_map ..
    refine ⟨_, rfl, _, rfl, a, _, rfl, .inr hx, rfl, flat_ints _, ?_⟩
    rw [if_neg (by decide), inV_ints]
    refine ⟨_, rfl, ?_⟩
    refine ite2 (fun e => ?_) (fun e => ?_)
    · have hs : s ∈ ns := by simpa using e
      obtain ⟨j, j1, j2, ea⟩ := ahead_first hs
      have lj := (List.getElem?_eq_some_iff.mp j1).1
      refine ⟨_, rfl, _, rfl, ⟨a, _, rfl, hf⟩, _, rfl, a, ns, s, j, rfl, rfl, hx, j1, j2, _, rfl, a, _, rfl, hx, fun q J c S => ?_⟩
      rw [cut_to _ j (by omega), ← List.map_take, ← ea] at c
      have la : (ahead s ns).length < 60 := by rw [ea, List.length_take]; omega
      exact ⟨_, rfl, q, ahead s ns, rfl, .inr c, by omega, fun p1 c1 lc h1 => ⟨p1, _, c1, rfl, upd_same, by omega, fun out p2 o1 o2 o3 h2 => ⟨p2, _, rfl, .inl ⟨SqL.of upd_same, fun t ht =>
        k out t _ ⟨o1, fun u => by rw [o2 u]; exact decide_eq_true_iff⟩ (((S.trans (same_new h1)).trans (same_new h2)).trans (same_new ht)) upd_same⟩⟩⟩⟩
    · have hs : s ∉ ns := by simpa using e
      have ea : ahead s ns = ns := ahead_all fun x hx z => hs (z ▸ hx)
      have la : (ahead s ns).length < 60 := by rw [ea]; omega
      have c : SqT K H a ((ahead s ns).map V.int) := by rw [ea]; exact hx
      exact ⟨_, rfl, _, rfl, a, ahead s ns, rfl, .inr c, by omega, fun p1 c1 lc h1 => ⟨p1, _, c1, rfl, upd_same, by omega, fun out p2 o1 o2 o3 h2 => ⟨p2, _, rfl, .inl ⟨SqL.of upd_same, fun t ht =>
        k out t _ ⟨o1, fun u => by rw [o2 u]; exact decide_eq_true_iff⟩ (((same_new h1).trans (same_new h2)).trans (same_new ht)) upd_same⟩⟩⟩⟩
end

/-! ### all worlds at the first moment, by the law -/
theorem sqT_dictN {K : PySem.W.Frag} {w : World} {J : Hp} {D a : Addr} {L : Memo} {xs : List V} {o : HO} (hD : J D = some (DictKO w D L)) (h : SqT K J a xs) : SqT K (upd J D o) a xs := by
  rcases h with (h | ⟨o2, h⟩) | h
  · exact Or.inl (Or.inl (by rw [upd_ne (ne_of h hD (fun z => by unfold DictKO at z; cases z))]; exact h))
  · exact Or.inl (Or.inr ⟨o2, by rw [upd_ne (ne_of h hD (fun z => by unfold DictKO at z; cases z))]; exact h⟩)
  · exact Or.inr h
theorem dictN_lst {w : World} {J : Hp} {D a : Addr} {L : Memo} {xs : List V} {o : HO} (hD : J D = some (DictKO w D L)) (h : J a = some (.lst xs)) : upd J D o a = some (.lst xs) := by
  rw [upd_ne (ne_of h hD (fun z => by unfold DictKO at z; cases z))]
  exact h
def sp_lbegun (K : PySem.W.Frag) (w : World) : Sp := fun vs H Q _ => ∃ (th : Addr) (z r : Int) (g : Nat), vs = [.ref th] ∧ SqT K H th [.int z, .int r, .int (g : Int)] ∧ HouseOf 81 z r (g : Int) ∧
  ∀ (l : Addr) (us : List V) (ms : List Wa) (J : Hp), Same H J → J l = some (.lst us) → WasAt K J us ms → ms.Nodup → (∀ x, x ∈ ms ↔ ∃ ns ∈ begR z r (g : Int), (ns.reverse, agoI ns) = x) → Q (.ref l) J
section
variable {P : Program} {w : World} {K : PySem.W.Frag} {mg : Str → Option Value} {base : Heap}
theorem ok_lbegun (T : Txt K mg) : FnOk P w K mg base CX0 2 T.a_begun T.d_begun ["_law_house_here"] (sp_lbegun K w) := by
  have G_rest_kept : FnOk P w K mg base CX0 1 T.a_rest_kept T.d_rest_kept ["_law_course_here", "_law_rest"] (sp_kept K) := ok_kept T
  refine T.F_begun.ok sc_begun (fun vs H Q E h => ?_) (fun cdv A outer s H vs Q E hr h => ?_)
  · obtain ⟨th, z, r, g, rfl, _⟩ := h
    rfl
  · obtain ⟨th, z, r, gn, rfl, hth, hz, k⟩ := h
    refine ⟨_, (pss_cons (ps_par (i := 1) (j := 2) (by rfl) sc_begun.nd rfl rfl (by decide) rfl rfl (pa_cons (pe_lst (pa_cons (pe_tup pa_nil) pa_nil)) (pa_cons pe_nnew pa_nil)) (by rfl))
      (pss_cons (ps_for PassesOwn.never rfl (pi_range1 (by rfl) T.m_range (pa_cons (pe_op op_add (pe_ix ix_tup (pv 0) pe_int (fun _ _ => rfl)) pe_int) pa_nil)) (pg_name (i := 3) sc_begun.nd rfl (Or.inl rfl))
        (pss_cons (ps_set (i := 4) sc_begun.nd rfl (Or.inl rfl) (pe_lst pa_nil))
      (pss_cons (ps_for PassesOwn.never rfl (pi_list (pv 1)) (pg_name (i := 5) sc_begun.nd rfl (Or.inr rfl))
        (pss_one (ps_expr (pe_bm PySem.F.plainAttrs_list PySem.F.slot_list_extend PySem.F.type_list_extend mt_extend (pv 4) (pa_cons (pe_lc (own := [("_law_head", 6)]) (g := gName 6) (by rfl) sc_begun.nd (pi_range1 (by rfl) T.m_range (pa_cons (pe_ix ix_tup (pv 0) pe_int (fun _ _ => rfl)) pa_nil)) (blkOk_by (own := [("_law_head", 6)]) (N := ["_law_house_here", "_law_some", "_law_found", "_law_k", "_law_longer", "_law_course_here", "_law_head", "_law_changed", "_law_moment", "_law_age"]) (sc := defScope s_begun) (by decide +kernel)) (fun _ _ _ _ _ => (pg_name (i := 6) sc_begun.nd rfl (Or.inl rfl))) (fun _ _ _ _ _ => pts_nil) (fun _ _ _ _ _ => (pe_op (catSK K rfl) (pv 5) (pe_tup (pa_cons (pv 6) pa_nil))))) pa_nil)))))
      (pss_one (ps_setLc (i := 1) (own := [("_law_course_here", 5)]) (g := gName 5) (by rfl) sc_begun.nd rfl rfl (sw_true rfl rfl rfl (by decide +kernel)) (pi_list (pv 4)) (blkOk_by (own := [("_law_course_here", 5)]) (N := ["_law_house_here", "_law_some", "_law_found", "_law_k", "_law_longer", "_law_course_here", "_law_head", "_law_changed", "_law_moment", "_law_age"]) (sc := defScope s_begun) (by decide +kernel)) (fun _ _ _ _ _ => (pg_name (i := 5) sc_begun.nd rfl (Or.inl rfl))) (fun _ _ _ _ _ => (pts_one (pt_val (pe_call G_rest_kept (hr.mono (by omega)) (by rfl) T.g_rest_kept T.F_rest_kept.kp T.b_rest_kept .nil pass0 (pa_cons (pv 5) (pa_cons (pe_ix (ixTK K rfl) (pv 0) pe_int (fun _ _ => rfl)) pa_nil)))))) (fun _ _ _ _ _ => (pv 5)))))))
      (pss_cons (ps_for PassesOwn.never rfl (pi_list (pv 1)) (pg_name (i := 5) sc_begun.nd rfl (Or.inr rfl))
        (pss_cons (ps_setLc (i := 7) (own := [("_law_moment", 8)]) (g := gName 8) (by rfl) sc_begun.nd rfl rfl (sw_true rfl rfl rfl (by decide +kernel)) (pi_range2 (by rfl) T.m_range (pa_cons pe_int (pa_cons (pe_callB (id := "len") call_len_seq (by rfl) T.m_len (by decide +kernel) (pa_cons (pv 5) pa_nil)) pa_nil))) (blkOk_by (own := [("_law_moment", 8)]) (N := ["_law_house_here", "_law_some", "_law_found", "_law_k", "_law_longer", "_law_course_here", "_law_head", "_law_changed", "_law_moment", "_law_age"]) (sc := defScope s_begun) (by decide +kernel)) (fun _ _ _ _ _ => (pg_name (i := 8) sc_begun.nd rfl (Or.inl rfl))) (fun _ _ _ _ _ => (pts_one (pt_cmpR op_ne (pe_ix (ixTK K rfl) (pv 5) (pv 8) (fun _ _ => rfl)) (pe_ix (ixTK K rfl) (pv 5) (pe_op op_sub (pv 8) pe_int) (fun _ _ => rfl)) (nomark _)))) (fun _ _ _ _ _ => (pv 8)))
      (pss_cons (ps_set (i := 9) sc_begun.nd rfl (Or.inl rfl) (pe_cut (pe_ifExp (pt_cmpR (op_neD hr.units) (pv 7) (pe_lst pa_nil) (nomark _)) (pe_op op_sub (pe_op op_sub (pe_callB (id := "len") call_len_seq (by rfl) T.m_len (by decide +kernel) (pa_cons (pv 5) pa_nil)) pe_int) (pe_ix ix_list (pv 7) (pe_un un_neg pe_int) (fun _ _ => rfl))) pe_non)))
      (pss_one (ps_nput (hu64 hr) (pv 2) (pe_tup (pa_cons (pe_revZ (pv 5)) (pa_cons (pv 9) pa_nil))) pe_bl (by rfl))))))
      (pss_one (ps_ret (pe_callTy (T := "list") (cr_listN rfl) (by rfl) T.m_list (by decide +kernel) (pa_cons (pv 2) pa_nil))))))), ?_⟩
    obtain ⟨g, eg0⟩ : ∃ g : Int, g = (gn : Int) := ⟨_, rfl⟩
    rw [← eg0] at hth hz k
    obtain ⟨z2, z4, r1, r6, g0, g3, _⟩ := id hz
    refine ⟨by show 0 ≤ sizeLine; decide, fun q0 h0 => ⟨by show 1 ≤ sizeLine; decide, fun a0 ha0 D hD => ?_⟩⟩
    have S1 : Same H (upd (upd (upd H q0 (.tup [])) a0 (.lst [.ref q0])) D (DictKO w D [])) := ((same_new h0).trans (same_new ha0)).trans (same_new hD)
    have A0 : (upd (upd (upd H q0 (.tup [])) a0 (.lst [.ref q0])) D (DictKO w D [])) a0 = some (.lst [.ref q0]) := same_new hD _ _ upd_same
    have Q0 : (upd (upd (upd H q0 (.tup [])) a0 (.lst [.ref q0])) D (DictKO w D [])) q0 = some (.tup []) := ((same_new ha0).trans (same_new hD)) _ _ upd_same
    have D0 : (upd (upd (upd H q0 (.tup [])) a0 (.lst [.ref q0])) D (DictKO w D [])) D = some (DictKO w D []) := upd_same
    have hD' : H D = none := by
      cases e : H D with
      | none => rfl
      | some o => rw [((same_new h0).trans (same_new ha0)) _ _ e] at hD; cases hD
    refine ⟨_, _, rfl, ?_⟩
    show tSeq _ _ _ _ (upd (upd (upd H q0 (.tup [])) a0 (.lst [.ref q0])) D (DictKO w D []))
    generalize upd (upd (upd H q0 (.tup [])) a0 (.lst [.ref q0])) D (DictKO w D []) = J0 at S1 A0 Q0 D0 ⊢
    have hth0 := sameT S1 hth
    have l81 : ∀ n : Nat, n ≤ (g + 1).toNat → (lawR z.toNat r n).length ≤ 81 ∧ (extR z.toNat (lawR z.toNat r n)).length ≤ 400 := fun n hn => by
      have a := allR_small hz n hn
      have b : (lawR z.toNat r n).length ≤ (allR z.toNat n).length := by
        rw [lawR_eq]
        exact List.length_filter_le _ _
      refine ⟨by omega, ?_⟩
      rw [extR_len]
      have c : (lawR z.toNat r n).length * z.toNat ≤ 81 * 4 := Nat.mul_le_mul (by omega) (by omega)
      omega
    have rowl : ∀ n : Nat, ∀ row ∈ lawR z.toNat r n, row.length = n := fun n row hrow => by
      rw [lawR_eq] at hrow
      exact (allR_mem (List.mem_filter.mp hrow).1).1
    refine ⟨_, rfl, th, _, 2, _, rfl, rfl, hth0, rfl, _, _, rfl, rfl, _, rfl, by omega, by omega, for_range (lo := 0) (n := (g + 1).toNat) (fun i σ J => ∃ (y3 y4 y5 : Option V) (R : Addr) (us : List V), σ = [some (.ref th), some (.ref R), some (.ref D), y3, y4, y5, none, none, none, none] ∧ Same J0 J ∧ J R = some (.lst us) ∧ RowsAt K J us (lawR z.toNat r i)) ⟨_, _, _, a0, _, rfl, Same.refl _, A0, .cons ⟨q0, rfl, SqT.of Q0⟩ .nil⟩ ?_ ?_⟩
    · rintro i σ J hi ⟨y3, y4, y5, R, us, rfl, S, hR, pr⟩
      obtain ⟨la, lb⟩ := l81 i (by omega)
      have rl := rowl i
      have eN : lawR z.toNat r (i + 1) = (extR z.toNat (lawR z.toNat r i)).filter fun ns => keptB ns r := rfl
      rw [eN]
      generalize lawR z.toNat r i = rows at pr la lb rl ⊢
      have lus := paired_length pr
      refine ⟨by show 0 ≤ sizeLine; decide, fun L hL => ?_⟩
      have S2 : Same J (upd J L (.lst [])) := same_new hL
      have L0 : (upd J L (.lst [])) L = some (.lst []) := upd_same
      show gName 4 (V.ref L) _ (upd J L (.lst [])) _
      have nRL : R ≠ L := ne_of_none hR hL
      generalize upd J L (.lst []) = J1 at S2 L0 ⊢
      refine ⟨_, rfl, R, rfl, ⟨_, SqL.of (S2 _ _ hR)⟩, for_list (K := K) (a := R) (xs := us) (fun m σ M => ∃ (y5 : Option V) (vs : List V), σ = [some (.ref th), some (.ref R), some (.ref D), some (.int (0 + (i : Int))), some (.ref L), y5, none, none, none, none] ∧ Same J M ∧ M L = some (.lst vs) ∧ RowsAt K M vs (extR z.toNat (rows.take m))) ⟨_, [], rfl, S2, L0, .nil⟩ (fun m σ M _ ⟨_, _, _, SM, _⟩ => SqL.of (SM _ _ hR)) ?_ ?_⟩
      · rintro m x σ M hx ⟨y5, vs, rfl, SM, hLM, pv⟩
        obtain ⟨row, hrow, q, rfl, sq⟩ := paired_nth pr hx
        have hlt : m < us.length := (List.getElem?_eq_some_iff.mp hx).1
        have erow : rows.take (m + 1) = rows.take m ++ [row] := by rw [List.take_add_one, hrow]; rfl
        have rlen := rl row (List.mem_of_getElem? hrow)
        refine ⟨_, rfl, .inl ⟨rfl, _, SqL.of hLM⟩, ?_⟩
        refine ⟨_, rfl, th, _, 0, _, rfl, rfl, sameT (S.trans SM) hth0, rfl, z, rfl, by omega, by omega, fun G hG => ?_⟩
        have nLD : L ≠ G := ne_of_none hLM hG
        refine lc_range (lo := 0) (n := z.toNat) (fun j N => ∃ ws : List V, Same M N ∧ N G = some (.lst ws) ∧ RowsAt K N ws ((List.range j).map fun h : Nat => row ++ [(h : Int)])) ⟨[], same_new hG, upd_same, .nil⟩ ?_ ?_
        · rintro j N hj ⟨ws, SN, hN, pw⟩
          have lw := paired_length pw
          rw [List.length_map, List.length_range] at lw
          refine ⟨rfl, ?_⟩
          unfold tYes
          refine iteT ⟨_, rfl, _, rfl, by show 1 ≤ sizeLine; decide, fun t ht => ?_⟩
          have s1 : Same N (upd N t (.tup [.int (0 + (j : Int))])) := same_new ht
          refine ⟨q, t, _, _, rfl, rfl, sameT ((SM.trans SN).trans s1) sq, SqT.of upd_same, Nat.le_trans (by rw [List.length_map, rlen, List.length_singleton]; omega : _ ≤ 100) (by decide), fun t2 M2 e2 S3 => ?_⟩
          have S4 := s1.trans S3
          have hN2 := S4 _ _ hN
          refine ⟨ws, hN2, Nat.lt_of_lt_of_le (by omega : ws.length < 100) (by decide), ws ++ [.ref t2], writeS (SN.trans S4) hG, upd_same, ?_⟩
          rw [List.range_succ, List.map_append]
          refine paired_put ((pw.same S4).put hN2) ⟨t2, rfl, sqT_upd ?_ hN2⟩
          have e5 : SqT K M2 t2 (row.map V.int ++ [V.int (0 + (j : Int))]) := e2
          rw [Int.zero_add] at e5
          rw [List.map_append]
          exact e5
        · rintro N ⟨ws, SN, hN, pw⟩
          have lv := paired_length pv
          have lw := paired_length pw
          rw [List.length_map, List.length_range] at lw
          have hLN := SN _ _ hLM
          have lsub : (extR z.toNat (rows.take m)).length ≤ 324 := by
            rw [extR_len]
            have c : (rows.take m).length * z.toNat ≤ 81 * 4 := Nat.mul_le_mul (by rw [List.length_take]; omega) (by omega)
            omega
          refine ⟨L, G, vs, ws, rfl, rfl, hLN, hN, Nat.le_trans (by omega : vs.length + ws.length ≤ 400) (by decide), ?_⟩
          refine ⟨_, vs ++ ws, rfl, writeS (SM.trans SN) hL, upd_same, ?_⟩
          rw [erow, extR_append]
          have e4 : extR z.toNat [row] = (List.range z.toNat).map fun h : Nat => row ++ [(h : Int)] := by unfold extR; simp
          rw [e4]
          have pa : ∀ {xs ys : List V} {as bs : List (List Int)} {G : Hp}, RowsAt K G xs as → RowsAt K G ys bs → RowsAt K G (xs ++ ys) (as ++ bs) := by
            intro xs ys as bs G h1 h2
            induction h1 with
            | nil => exact h2
            | cons a _ ih => exact .cons a ih
          exact pa ((pv.same SN).put hLN) (pw.put hLN)
      · rintro σ M ⟨y5, vs, rfl, SM, hLM, pv⟩
        rw [lus, List.take_length] at pv
        have exl : ∀ row ∈ extR z.toNat rows, row.length ≤ 50 := fun row hrow => by
          obtain ⟨q, hq, h, _, rfl⟩ := mem_extR.mp hrow
          rw [List.length_append, rl q hq, List.length_singleton]
          omega
        generalize extR z.toNat rows = ext at pv lb exl ⊢
        have lv := paired_length pv
        refine ⟨_, rfl, L, rfl, ⟨_, SqL.of hLM⟩, fun G hG => ?_⟩
        refine lc_list (K := K) (a := L) (xs := vs) (fun m N => ∃ ws : List V, Same M N ∧ N G = some (.lst ws) ∧ ws.length ≤ m ∧ RowsAt K N ws ((ext.take m).filter fun ns => keptB ns r)) ⟨[], same_new hG, upd_same, Nat.le_refl _, .nil⟩ (fun m N _ ⟨_, SN, _⟩ => SqL.of (SN _ _ hLM)) ?_ ?_
        · rintro m x N hx ⟨ws, SN, hN, lw, pw⟩
          obtain ⟨row, hrow, q, rfl, sq⟩ := paired_nth pv hx
          have hlt : m < vs.length := (List.getElem?_eq_some_iff.mp hx).1
          refine ⟨rfl, ?_⟩
          have rle := exl row (List.mem_of_getElem? hrow)
          have e6 : (ext.take (m + 1)).filter (fun ns => keptB ns r) = (ext.take m).filter (fun ns => keptB ns r) ++ if keptB row r = true then [row] else [] := by
            rw [List.take_add_one, hrow, List.filter_append]
            simp only [Option.toList_some, List.filter_cons, List.filter_nil]
          refine ⟨_, rfl, _, rfl, th, _, 1, _, rfl, rfl, sameT ((S.trans SM).trans SN) hth0, rfl, q, r, row, rfl, .inr (sameT SN sq), by omega, fun N2 S2 => ⟨_, rfl, ite2 (fun hk => ?_) (fun hk => ?_)⟩⟩
          · rw [if_pos hk] at e6
            have hN2 := S2 _ _ hN
            refine ⟨_, rfl, ws, hN2, Nat.lt_of_lt_of_le (by omega : ws.length < 1000) (by decide), ws ++ [.ref q], writeS (SN.trans S2) hG, upd_same, by rw [List.length_append, List.length_singleton]; omega, ?_⟩
            rw [e6]
            exact paired_put ((pw.same S2).put hN2) ⟨q, rfl, sqT_upd (sameT (SN.trans S2) sq) hN2⟩
          · rw [if_neg hk, List.append_nil] at e6
            exact ⟨ws, SN.trans S2, S2 _ _ hN, by omega, by rw [e6]; exact pw.same S2⟩
        · rintro N ⟨ws, SN, hN, lw, pw⟩
          rw [lv, List.take_length] at pw
          exact ⟨_, _, _, G, ws, rfl, (S.trans SM).trans SN, hN, pw⟩
    · rintro σ J ⟨y3, y4, y5, R, us, rfl, S, hR, pr⟩
      have eg : (g + 1).toNat = gn + 1 := by omega
      have eB : begR z r g = lawR z.toNat r (g + 1).toNat := (lawR_eq _ _ _).symm
      have rl := rowl (g + 1).toNat
      have la := (l81 _ (Nat.le_refl _)).1
      rw [← eB] at pr rl la
      generalize begR z r g = rows at pr rl la k
      have lus := paired_length pr
      have hD1 := S _ _ D0
      have hthJ := sameT (S1.trans S) hth
      refine ⟨_, rfl, R, rfl, ⟨_, SqL.of hR⟩, for_list (K := K) (a := R) (xs := us) (fun m σ N => ∃ (y5 y7 y9 : Option V) (ps : List Wa), σ = [some (.ref th), some (.ref R), some (.ref D), y3, y4, y5, none, y7, none, y9] ∧ Same H N ∧ N R = some (.lst us) ∧ RowsAt K N us rows ∧ DictWa K w N D ps ∧ ps.Nodup ∧ ps.length ≤ m ∧ ∀ x, x ∈ ps ↔ ∃ ns ∈ rows.take m, (ns.reverse, agoI ns) = x) ⟨_, _, _, [], rfl, S1.trans S, hR, pr, ⟨[], hD1, rfl, .nil⟩, .nil, Nat.le_refl _, fun x => ⟨fun h => absurd h List.not_mem_nil, fun ⟨ns, h, _⟩ => absurd h List.not_mem_nil⟩⟩ (fun m σ N _ ⟨_, _, _, _, _, _, hN, _⟩ => SqL.of hN) ?_ ?_⟩
      · rintro m x σ N hx ⟨y5, y7, y9, ps, rfl, SN, hN, pN, dw, nd, lps, mem⟩
        obtain ⟨row, hrow, q, rfl, sq⟩ := paired_nth pN hx
        have hlt : m < us.length := (List.getElem?_eq_some_iff.mp hx).1
        have rlen := rl row (List.mem_of_getElem? hrow)
        have lq : (row.map V.int).length = row.length := List.length_map ..
        refine ⟨_, rfl, q, _, rfl, .inr sq, ?_⟩
        refine ⟨1, _, rfl, ⟨by decide, by decide, by omega, by omega⟩, fun F hF => ?_⟩
        rw [lq]
        refine lc_range (lo := 1) (n := ((row.length : Int) - 1).toNat) (fun i J => J = upd N F (.lst ((chg row i).map V.int))) rfl ?_ ?_
        · rintro i J hi rfl
          have hx' := sameT (same_new (o := .lst ((chg row i).map V.int)) hF) sq
          refine ⟨rfl, ?_⟩
          have g1 : row[i + 1]? = some row[i + 1] := List.getElem?_eq_getElem (by omega)
          have g0 : row[i]? = some row[i] := List.getElem?_eq_getElem (by omega)
          refine ⟨_, rfl, _, rfl, q, _, _, _, rfl, rfl, hx', show atI (row.map V.int) (1 + (i : Int)) = _ by rw [show (1 + (i : Int)) = ((i + 1 : Nat) : Int) by omega]; exact int_nat g1, ?_⟩
          refine ⟨_, rfl, _, rfl, _, _, rfl, rfl, q, _, _, _, rfl, rfl, hx', show atI (row.map V.int) (1 + (i : Int) - 1) = _ by rw [show (1 + (i : Int) - 1) = (i : Int) by omega]; exact int_nat g0, ?_⟩
          refine ⟨rfl, _, rfl, ?_⟩
          have es := chg_succ row i
          have le := chg_len row i
          rw [show (!decide (V.int row[i + 1] = V.int row[i])) = changesP row i by rw [dec_int, changesP_at g1 g0]; rfl]
          refine ite2 (fun e => ?_) (fun e => ?_)
          · rw [if_pos e] at es
            refine ⟨_, rfl, _, upd_same, small1000' (by rw [List.length_map]; omega), ?_⟩
            rw [upd_upd, es, List.map_append]
            rfl
          · rw [if_neg e] at es
            rw [es]
        · rintro J rfl
          have ec : chg row ((row.length : Int) - 1).toNat = changesI row := by
            have : ((row.length : Int) - 1).toNat = row.length - 1 := by omega
            rw [this]
            rfl
          rw [ec]
          have s1 : Same N (upd N F (.lst ((changesI row).map V.int))) := same_new hF
          have hF1 : (upd N F (.lst ((changesI row).map V.int))) F = some (.lst ((changesI row).map V.int)) := upd_same
          have pos : ∀ c, (changesI row).getLast? = some c → (row.length : Int) - 1 - c ≠ -1 := fun c hc => by
            have := changes_in (List.mem_of_getLast? hc)
            omega
          have eh : agoI row = match (changesI row).getLast? with
            | none => -1
            | some c => (row.length : Int) - 1 - c := rfl
          have mem2 : ∀ x, x ∈ addW ps (row.reverse, agoI row) ↔ ∃ ns ∈ rows.take (m + 1), (ns.reverse, agoI ns) = x := fun x => by
            rw [mem_addW, mem, List.take_add_one, hrow]
            simp only [Option.toList_some, List.mem_append, List.mem_singleton]
            exact ⟨fun h => h.elim (fun ⟨ns, h1, h2⟩ => ⟨ns, .inl h1, h2⟩) fun h => ⟨row, .inr rfl, h.symm⟩, fun ⟨ns, h1, h2⟩ => h1.elim (fun h1 => .inl ⟨ns, h1, h2⟩) fun h1 => .inr (by rw [← h2, h1])⟩
          show gName 7 (V.ref F) _ (upd N F (.lst ((changesI row).map V.int))) _
          generalize upd N F (.lst ((changesI row).map V.int)) = N1 at s1 hF1 ⊢
          generalize hcs : changesI row = cs at hF1 pos eh
          refine ⟨fun v J => v = ageV (agoI row) ∧ Same N1 J, ?_, ?_⟩
          · refine ⟨_, rfl, Nat.zero_le _, fun u hu => ?_⟩
            have su : Same N1 (upd N1 u (.lst [])) := same_new hu
            refine ⟨.list (cs.map PyData.int), .list [], .lst (SqL.of (su _ _ hF1)) (ints_dp cs), .lst (SqL.of upd_same) .nil, ints_shaped cs, by decide, _, rfl, ?_⟩
            rw [list_nil, List.isEmpty_map]
            have hF2 := su _ _ hF1
            have hx2 := sameT su (sameT s1 sq)
            generalize upd N1 u (.lst []) = J2 at su hF2 hx2 ⊢
            cases el : cs.getLast? with
            | none =>
              rw [el] at eh
              obtain rfl : cs = [] := by simpa using el
              exact iteF ⟨by rw [eh]; rfl, su⟩
            | some c =>
              rw [el] at eh
              have cne : cs.isEmpty = false := by
                cases cs with
                | nil => cases el
                | cons _ _ => rfl
              rw [cne]
              have hl2 : (cs.map V.int).getLast? = some (.int c) := by rw [List.getLast?_map, el]; rfl
              have ea : ageV (agoI row) = .int ((row.length : Int) - 1 - c) := by rw [eh]; unfold ageV; rw [if_neg (pos c el)]
              refine iteT ⟨_, rfl, q, _, rfl, .inr hx2, ?_⟩
              refine ⟨_, _, rfl, rfl, _, rfl, 1, rfl, F, _, -1, _, rfl, rfl, SqL.of hF2, atI_last hl2, _, _, rfl, rfl, ?_⟩
              rw [lq]
              exact ⟨ea.symm, su⟩
          · rintro v J ⟨rfl, SJ⟩
            have SNJ := s1.trans SJ
            refine ⟨_, rfl, _, rfl, q, _, rfl, sameT SNJ sq, fun t ot ct dt ht => ?_⟩
            have s2 : Same J (upd J t (.frz ot (.tup (row.map V.int).reverse))) := same_new ht
            have T1 : (upd J t (.frz ot (.tup (row.map V.int).reverse))) t = some (.frz ot (.tup (row.map V.int).reverse)) := upd_same
            refine ⟨_, rfl, by show 2 ≤ sizeLine; decide, fun t2 ht2 => ?_⟩
            have s3 := same_new (o := .tup [.ref t, ageV (agoI row)]) ht2
            have T2 : (upd (upd J t (.frz ot (.tup (row.map V.int).reverse))) t2 (.tup [.ref t, ageV (agoI row)])) t2 = some (.tup [.ref t, ageV (agoI row)]) := upd_same
            have T3 := s3 _ _ T1
            have S4 := SNJ.trans (s2.trans s3)
            generalize upd (upd J t (.frz ot (.tup (row.map V.int).reverse))) t2 (.tup [.ref t, ageV (agoI row)]) = J4 at T2 T3 S4 ⊢
            obtain ⟨L, L1, L2, L3⟩ := dw.same S4
            have wa : WaAt K J4 (.ref t2) (row.reverse, agoI row) := ⟨t2, t, rfl, SqT.of T2, ot, ct, dt, by rw [List.map_reverse]; exact T3⟩
            have lL : L.length = ps.length := by have := congrArg List.length L2; rw [List.length_map, List.length_map] at this; exact this
            refine ⟨D, L, t2, _, rfl, rfl, L1, DictWa.keys L2 L3, ⟨waD_key _, waD_deep _, wa.dp⟩, Nat.lt_of_le_of_lt (by omega : L.length ≤ 100) (by decide), fun M hM => ?_⟩
            refine ⟨_, _, _, addW ps (row.reverse, agoI row), rfl, writeS (SN.trans S4) hD', dictN_lst L1 (S4 _ _ hN), paired_mono (fun v r ⟨q, e, h⟩ => ⟨q, e, sqT_dictN L1 (sameT S4 h)⟩) pN, DictWa.put L1 L2 L3 wa hM, addW_nodup nd, by have := addW_len (ps := ps) (p := (row.reverse, agoI row)); omega, mem2⟩
      · rintro σ N ⟨y5, y7, y9, ps, rfl, SN, hN, pN, dw, nd, lps, mem⟩
        obtain ⟨L, L1, L2, L3⟩ := dw
        refine ⟨_, rfl, D, L, rfl, L1, DictWa.keys L2 L3, fun l hl => ?_⟩
        rw [lus, List.take_length] at mem
        have s5 := same_new (o := .lst (L.map fun q => V.ref q.2.1)) hl
        exact k l _ ps _ (SN.trans s5) upd_same (WasAt.same L3 s5) nd mem
end

/-! ### all worlds a moment later, by the law -/
def sp_lnext59 (K : PySem.W.Frag) (w : World) : Sp := fun vs H Q _ => ∃ (th F : Addr) (z r : Int) (g : Nat) (us : List V) (ws : List Wa), vs = [.ref th, .ref F] ∧ SqT K H th [.int z, .int r, .int (g : Int)] ∧ HouseOf 81 z r (g : Int) ∧ H F = some (.lst us) ∧ WasAt K H us ws ∧ ws.length ≤ 300 ∧ (∀ p ∈ ws, p.1.length = g + 1 ∧ -1 ≤ p.2) ∧
  ∀ (l : Addr) (us : List V) (ms : List Wa) (J : Hp), Same H J → J l = some (.lst us) → WasAt K J us ms → ms.Nodup → (∀ x, x ∈ ms ↔ ∃ p ∈ ws, x ∈ nextA z r p) → Q (.ref l) J
theorem was_nth {K : PySem.W.Frag} {H : Hp} : ∀ {vs : List V} {ls : List Wa} {i : Nat} {x : V}, WasAt K H vs ls → vs[i]? = some x → ∃ p, ls[i]? = some p ∧ WaAt K H x p
  | _, _, _, _, .nil, h => by cases h
  | _, _, 0, _, .cons (b := b) r _, h => by
    cases h
    exact ⟨b, rfl, r⟩
  | _, _, i + 1, _, .cons _ t, h => was_nth (i := i) t h
theorem was_len {K : PySem.W.Frag} {H : Hp} : ∀ {vs : List V} {ls : List Wa}, WasAt K H vs ls → vs.length = ls.length
  | _, _, .nil => rfl
  | _, _, .cons _ t => by rw [List.length_cons, List.length_cons, was_len t]
section
variable {P : Program} {w : World} {K : PySem.W.Frag} {mg : Str → Option Value} {base : Heap}
theorem ok_lnext59 (T : Txt K mg) : FnOk P w K mg base CX0 2 T.a_next_worlds T.d_next_worlds ["_law_house_here", "_law_worlds_here"] (sp_lnext59 K w) := by
  refine T.F_next_worlds.ok sc_next_worlds (fun vs H Q E h => ?_) (fun cdv A outer s H vs Q E hr h => ?_)
  · obtain ⟨th, F, z, r, g, us, ws, rfl, _⟩ := h
    rfl
  · obtain ⟨th, F, z, r, gn, us, ws, rfl, hth, hz, hF, pw, l300, long, k⟩ := h
    refine ⟨_, (pss_cons (ps_set (i := 2) sc_next_worlds.nd rfl (Or.inl rfl) pe_nnew)
      (pss_cons (ps_for PassesOwn.never rfl (pi_list (pv 1)) (pg_tup (by rfl) (pgs_cons (pg_name (i := 3) sc_next_worlds.nd rfl (Or.inl rfl)) (pgs_cons (pg_name (i := 4) sc_next_worlds.nd rfl (Or.inl rfl)) pgs_nil)))
        (pss_cons (ps_nput (hu64 hr) (pv 2) (pe_tupZ (pa_cons (pe_op op_catZ (pe_tupZ (pa_cons (pe_ix ix_tup (pv 3) pe_int (fun _ _ => rfl)) pa_nil)) (pe_slice sl_tupS (pv 3) po_none (po_some (pe_un un_neg pe_int)))) (pa_cons (pe_cut (pe_ifExp (pt_cmpR op_isN (pv 4) pe_non (nomark _)) pe_non (pe_op op_add (pv 4) pe_int))) pa_nil))) pe_bl (by rfl))
      (pss_one (ps_if (pt_cut (PW.pt (pw_or (pt_cmpR op_isN (pv 4) pe_non (nomark _)) (pw_or1 (pt_cmpR op_ge (pe_op op_add (pv 4) pe_int) (pe_ix ix_tup (pv 0) pe_int (fun _ _ => rfl)) (nomark _))))))
        (pss_one (ps_for PassesOwn.never rfl (pi_range1 (by rfl) T.m_range (pa_cons (pe_ix ix_tup (pv 0) pe_int (fun _ _ => rfl)) pa_nil)) (pg_name (i := 5) sc_next_worlds.nd rfl (Or.inl rfl))
        (pss_one (ps_if (pt_cmpR op_ne (pv 5) (pe_ix ix_tup (pv 3) pe_int (fun _ _ => rfl)) (nomark _))
        (pss_one (ps_nput (hu64 hr) (pv 2) (pe_tupZ (pa_cons (pe_op op_catZ (pe_tupZ (pa_cons (pv 5) pa_nil)) (pe_slice sl_tupS (pv 3) po_none (po_some (pe_un un_neg pe_int)))) (pa_cons pe_int pa_nil))) pe_bl (by rfl)))
        pss_nil))))
        pss_nil))))
      (pss_one (ps_ret (pe_callTy (T := "list") (cr_listN rfl) (by rfl) T.m_list (by decide +kernel) (pa_cons (pv 2) pa_nil)))))), ?_⟩
    obtain ⟨z2, z4, r1, r6, g0, g3, _⟩ := id hz
    have big : ∀ {q : Nat}, q ≤ 9000 → q ≤ sizeLine := fun h => Nat.le_trans h (by decide)
    have lws := was_len pw
    intro D hD
    have S1 : Same H (upd H D (DictKO w D [])) := same_new hD
    have D0 : (upd H D (DictKO w D [])) D = some (DictKO w D []) := upd_same
    show gName 2 (V.ref D) _ (upd H D (DictKO w D [])) _
    generalize upd H D (DictKO w D []) = J0 at S1 D0 ⊢
    refine ⟨_, rfl, F, rfl, ⟨_, SqL.of (S1 _ _ hF)⟩, for_list (K := K) (a := F) (xs := us) (fun m σ N => ∃ (y3 y4 y5 : Option V) (ps : List Wa), σ = [some (.ref th), some (.ref F), some (.ref D), y3, y4, y5] ∧ Same H N ∧ DictWa K w N D ps ∧ ps.Nodup ∧ ps.length ≤ 5 * m ∧ ∀ x, x ∈ ps ↔ ∃ p ∈ ws.take m, x ∈ nextA z r p) ⟨_, _, _, [], rfl, S1, ⟨[], D0, rfl, .nil⟩, .nil, Nat.le_refl _, fun x => ⟨fun h => absurd h List.not_mem_nil, fun ⟨p, h, _⟩ => absurd h List.not_mem_nil⟩⟩ (fun m σ N _ ⟨_, _, _, _, _, SN, _⟩ => SqL.of (SN _ _ hF)) ?_ ?_⟩
    · rintro m x σ N hx ⟨y3, y4, y5, ps, rfl, SN, dw, nd, lps, mem⟩
      obtain ⟨p, hp, b, c, rfl, hb, hc⟩ := was_nth pw hx
      have hlt : m < us.length := (List.getElem?_eq_some_iff.mp hx).1
      obtain ⟨pl, pa⟩ := long p (List.mem_of_getElem? hp)
      have hbN := sameT SN hb
      have hcN := hc.same SN
      refine ⟨b, _, rfl, hbN, rfl, _, _, rfl, _, _, rfl, rfl, ?_⟩
      have cutI : cutV (p.1.map V.int) none (some (-1)) = (p.1.take (p.1.length - 1)).map V.int := by rw [cut_init (by rw [List.length_map]; omega), List.length_map, List.map_take]
      obtain ⟨x0, ex0⟩ : ∃ x0, p.1.headD 0 = x0 := ⟨_, rfl⟩
      have at0 : atI (p.1.map V.int) 0 = some (.int x0) := by
        refine atI_nat (j := 0) ?_
        cases e : p.1 with
        | nil => rw [e, List.length_nil] at pl; omega
        | cons y t => rw [e] at ex0; rw [← ex0]; rfl
      have eN : nextA z r p = [(x0 :: p.1.take (p.1.length - 1), if p.2 = -1 then -1 else p.2 + 1)] ++ if p.2 = -1 ∨ r ≤ p.2 + 1 then ((List.range z.toNat).filter fun y : Nat => !decide ((y : Int) = x0)).map fun y : Nat => ((y : Int) :: p.1.take (p.1.length - 1), 0) else [] := by
        unfold nextA
        rw [ex0]
      have tl : (p.1.take (p.1.length - 1)).length ≤ 60 := by rw [List.length_take]; omega
      generalize p.1.take (p.1.length - 1) = ini at cutI tl eN
      have take1 : ∀ (qs : List Wa) (G : Wa → Prop), (∀ x, x ∈ qs ↔ x ∈ ps ∨ G x) → (∀ x, G x ↔ x ∈ nextA z r p) → ∀ x, x ∈ qs ↔ ∃ p ∈ ws.take (m + 1), x ∈ nextA z r p := fun qs G h1 h2 x => by
        rw [h1, h2, mem, List.take_add_one, hp]
        simp only [Option.toList_some, List.mem_append, List.mem_singleton]
        exact ⟨fun h => h.elim (fun ⟨v, a, b⟩ => ⟨v, .inl a, b⟩) fun h => ⟨p, .inr rfl, h⟩, fun ⟨v, a, b⟩ => a.elim (fun a => .inl ⟨v, a, b⟩) fun a => .inr (by rw [← a]; exact b)⟩
      refine ⟨_, rfl, _, rfl, c, _, 0, _, rfl, rfl, hcN.sq, at0, by show 1 ≤ sizeLine; decide, fun q1 oq cq dq g1 => ?_⟩
      have s1 : Same N (upd N q1 (.frz oq (.tup [.int x0]))) := same_new g1
      have f1 : FrzT (upd N q1 (.frz oq (.tup [.int x0]))) q1 [.int x0] := ⟨oq, cq, dq, upd_same⟩
      refine ⟨_, rfl, 1, rfl, -1, rfl, c, _, rfl, sameT s1 hcN.sq, fun q2 J1 e2 s2 => ?_⟩
      rw [cutI] at e2
      refine ⟨q1, q2, _, _, rfl, rfl, sameT s2 f1.sq, e2, List.cons_ne_nil _ _, big (by rw [List.length_singleton, List.length_map]; omega), fun _ => f1.same s2, fun q3 J2 e3 s3 => ?_⟩
      have S3 := (s1.trans s2).trans s3
      refine ⟨fun v J => v = ageV (if p.2 = -1 then -1 else p.2 + 1) ∧ J = J2, ?_, ?_⟩
      · refine ⟨_, rfl, rfl, _, rfl, ?_⟩
        by_cases e : p.2 = -1
        · have ev : ageV p.2 = .non := by unfold ageV; rw [if_pos e]
          rw [ev, decide_eq_true (show V.non = V.non from rfl)]
          refine iteT ⟨?_, rfl⟩
          rw [if_pos e]
          rfl
        · have ev : ageV p.2 = .int p.2 := by unfold ageV; rw [if_neg e]
          rw [ev, decide_eq_false (show ¬ V.int p.2 = V.non by intro z; cases z)]
          refine iteF ⟨_, rfl, _, _, rfl, rfl, ?_, rfl⟩
          rw [if_neg e]
          unfold ageV
          rw [if_neg (by omega)]
      · rintro v J ⟨rfl, rfl⟩
        refine ⟨by show 2 ≤ sizeLine; decide, fun b0 ob cb db gb => ?_⟩
        have S4 := S3.trans (same_new (o := .frz ob (.tup [.ref q3, ageV (if p.2 = -1 then -1 else p.2 + 1)])) gb)
        have wa : WaAt K (upd J b0 (.frz ob (.tup [.ref q3, ageV (if p.2 = -1 then -1 else p.2 + 1)]))) (.ref b0) (x0 :: ini, if p.2 = -1 then -1 else p.2 + 1) := ⟨b0, q3, rfl, FrzT.sq ⟨ob, cb, db, upd_same⟩, FrzT.same e3 (same_new gb)⟩
        generalize upd J b0 (.frz ob (.tup [.ref q3, ageV (if p.2 = -1 then -1 else p.2 + 1)])) = J4 at S4 wa ⊢
        obtain ⟨L, L1, L2, L3⟩ := dw.same S4
        have lL : L.length = ps.length := by have := congrArg List.length L2; rw [List.length_map, List.length_map] at this; exact this
        refine ⟨D, L, b0, _, rfl, rfl, L1, DictWa.keys L2 L3, ⟨waD_key _, waD_deep _, wa.dp⟩, Nat.lt_of_le_of_lt (by omega : L.length ≤ 2000) (by decide), fun M hM => ?_⟩
        have dw5 := DictWa.put L1 L2 L3 wa hM
        have S5 : Same H (upd J4 D (DictKO w D M)) := writeS (SN.trans S4) hD
        have nd5 := addW_nodup (p := (x0 :: ini, if p.2 = -1 then -1 else p.2 + 1)) nd
        have ln5 := addW_len (ps := ps) (p := (x0 :: ini, if p.2 = -1 then -1 else p.2 + 1))
        have mem5 : ∀ x, x ∈ addW ps (x0 :: ini, if p.2 = -1 then -1 else p.2 + 1) ↔ x ∈ ps ∨ x = (x0 :: ini, if p.2 = -1 then -1 else p.2 + 1) := fun x => mem_addW
        generalize addW ps (x0 :: ini, if p.2 = -1 then -1 else p.2 + 1) = ps5 at dw5 nd5 ln5 mem5
        show (_ : Hp → Prop) (upd J4 D (DictKO w D M))
        generalize upd J4 D (DictKO w D M) = J5 at dw5 S5 ⊢
        have hb5 := sameT S5 hb
        have hc5 := hc.same S5
        refine ⟨fun b J => b = decide (p.2 = -1 ∨ r ≤ p.2 + 1) ∧ J = J5, ?_, ?_⟩
        · refine ⟨_, rfl, rfl, _, rfl, ?_⟩
          by_cases e : p.2 = -1
          · have ev : ageV p.2 = .non := by unfold ageV; rw [if_pos e]
            rw [ev, decide_eq_true (show V.non = V.non from rfl)]
            exact iteT ⟨(decide_eq_true (.inl e)).symm, rfl⟩
          · have ev : ageV p.2 = .int p.2 := by unfold ageV; rw [if_neg e]
            rw [ev, decide_eq_false (show ¬ V.int p.2 = V.non by intro z; cases z)]
            refine iteF ?_
            refine ⟨_, rfl, _, _, rfl, rfl, _, rfl, th, _, 1, _, rfl, rfl, sameT S5 hth, rfl, _, _, rfl, rfl, _, rfl, ?_, rfl⟩
            rw [Bool.eq_iff_iff]
            simp only [decide_eq_true_iff]
            exact ⟨fun h => .inr h, fun h => h.elim (fun h => absurd h e) id⟩
        · rintro b J ⟨rfl, rfl⟩
          refine ite2 (fun hh => ?_) (fun hh => ?_)
          · have may : p.2 = -1 ∨ r ≤ p.2 + 1 := of_decide_eq_true hh
            rw [if_pos may] at eN
            refine ⟨_, rfl, th, _, 0, _, rfl, rfl, sameT S5 hth, rfl, _, rfl, by omega, by omega, for_range (lo := 0) (n := z.toNat) (fun i σ N => ∃ (y5 : Option V) (qs : List Wa), σ = [some (.ref th), some (.ref F), some (.ref D), some (.ref c), some (ageV p.2), y5] ∧ Same H N ∧ DictWa K w N D qs ∧ qs.Nodup ∧ qs.length ≤ ps5.length + i ∧ ∀ x, x ∈ qs ↔ x ∈ ps5 ∨ x ∈ ((List.range i).filter fun y : Nat => !decide ((y : Int) = x0)).map fun y : Nat => ((y : Int) :: ini, (0 : Int))) ⟨_, ps5, rfl, S5, dw5, nd5, Nat.le_refl _, fun x => ⟨.inl, fun h => h.elim id fun h => absurd h List.not_mem_nil⟩⟩ ?_ ?_⟩
            · rintro i σ N hi ⟨y5, qs, rfl, SN2, dq, ndq, lq, memq⟩
              have hcN2 := hc.same SN2
              refine ⟨_, rfl, _, rfl, c, _, 0, _, rfl, rfl, hcN2.sq, at0, rfl, _, rfl, ?_⟩
              have vd : ∀ x y : Int, decide (V.int x = V.int y) = decide (x = y) := fun x y => by simp only [V.int.injEq]
              rw [vd, Int.zero_add]
              have er : ∀ b : Bool, (!decide ((i : Int) = x0)) = b → (((List.range (i + 1)).filter fun y : Nat => !decide ((y : Int) = x0)).map fun y : Nat => (((y : Int) :: ini, (0 : Int)) : Wa)) = (((List.range i).filter fun y : Nat => !decide ((y : Int) = x0)).map fun y : Nat => ((y : Int) :: ini, (0 : Int))) ++ if b = true then [((i : Int) :: ini, (0 : Int))] else [] := fun b hb => by
                rw [List.range_succ, List.filter_append, List.map_append, List.filter_cons, List.filter_nil, hb]
                cases b <;> rfl
              by_cases e0 : (i : Int) = x0
              · have e1 := er false (by simp [e0])
                rw [decide_eq_true e0]
                refine iteF ⟨_, qs, rfl, SN2, dq, ndq, by omega, fun x => ?_⟩
                rw [e1, if_neg Bool.false_ne_true, List.append_nil]
                exact memq x
              · have e1 := er true (by simp [e0])
                rw [decide_eq_false e0]
                refine iteT ?_
                refine ⟨_, rfl, _, rfl, by show 1 ≤ sizeLine; decide, fun w1 ow cw dw g1 => ?_⟩
                have s1 : Same N (upd N w1 (.frz ow (.tup [.int (i : Int)]))) := same_new g1
                have f1 : FrzT (upd N w1 (.frz ow (.tup [.int (i : Int)]))) w1 [.int (i : Int)] := ⟨ow, cw, dw, upd_same⟩
                refine ⟨_, rfl, 1, rfl, -1, rfl, c, _, rfl, sameT s1 hcN2.sq, fun w2 M1 e2 s2 => ?_⟩
                rw [cutI] at e2
                refine ⟨w1, w2, _, _, rfl, rfl, sameT s2 f1.sq, e2, List.cons_ne_nil _ _, big (by rw [List.length_singleton, List.length_map]; omega), fun _ => f1.same s2, fun w3 M2 e3 s3 => ?_⟩
                have S3 := (s1.trans s2).trans s3
                refine ⟨by show 2 ≤ sizeLine; decide, fun b0 ob cb db gb => ?_⟩
                have S4 := S3.trans (same_new (o := .frz ob (.tup [.ref w3, .int 0])) gb)
                have wa : WaAt K (upd M2 b0 (.frz ob (.tup [.ref w3, .int 0]))) (.ref b0) ((i : Int) :: ini, 0) := ⟨b0, w3, rfl, FrzT.sq ⟨ob, cb, db, upd_same⟩, FrzT.same e3 (same_new gb)⟩
                generalize upd M2 b0 (.frz ob (.tup [.ref w3, .int 0])) = J4 at S4 wa ⊢
                obtain ⟨L, L1, L2, L3⟩ := dq.same S4
                have lL : L.length = qs.length := by have := congrArg List.length L2; rw [List.length_map, List.length_map] at this; exact this
                refine ⟨D, L, b0, _, rfl, rfl, L1, DictWa.keys L2 L3, ⟨waD_key _, waD_deep _, wa.dp⟩, Nat.lt_of_le_of_lt (by omega : L.length ≤ 4000) (by decide), fun M hM => ?_⟩
                refine ⟨_, _, rfl, writeS (SN2.trans S4) hD, DictWa.put L1 L2 L3 wa hM, addW_nodup ndq, by have := addW_len (ps := qs) (p := ((i : Int) :: ini, 0)); omega, fun x => ?_⟩
                rw [mem_addW, memq, e1, if_pos rfl, List.mem_append, List.mem_singleton]
                exact or_assoc
            · rintro σ N ⟨y5, qs, rfl, SN2, dq, ndq, lq, memq⟩
              refine ⟨_, _, _, qs, rfl, SN2, dq, ndq, by omega, take1 qs (fun x => x = (x0 :: ini, if p.2 = -1 then -1 else p.2 + 1) ∨ x ∈ ((List.range z.toNat).filter fun y : Nat => !decide ((y : Int) = x0)).map fun y : Nat => ((y : Int) :: ini, (0 : Int))) (fun x => ?_) fun x => ?_⟩
              · rw [memq, mem5]
                exact or_assoc
              · rw [eN, List.mem_append, List.mem_singleton]
          · have may : ¬ (p.2 = -1 ∨ r ≤ p.2 + 1) := fun h => hh (decide_eq_true h)
            rw [if_neg may, List.append_nil] at eN
            refine ⟨_, _, _, ps5, rfl, S5, dw5, nd5, by omega, take1 ps5 (fun x => x = (x0 :: ini, if p.2 = -1 then -1 else p.2 + 1)) mem5 fun x => ?_⟩
            rw [eN, List.mem_singleton]
    · rintro σ N ⟨y3, y4, y5, ps, rfl, SN, dw, nd, lps, mem⟩
      obtain ⟨L, L1, L2, L3⟩ := dw
      refine ⟨_, rfl, D, L, rfl, L1, DictWa.keys L2 L3, fun l hl => ?_⟩
      rw [lws, List.take_length] at mem
      have s5 := same_new (o := .lst (L.map fun q => V.ref q.2.1)) hl
      exact k l _ ps _ (SN.trans s5) upd_same (WasAt.same L3 s5) nd mem
end

/-! ### the worlds behind a log, by the law -/
theorem was_shaped (ms : List Wa) : SeqAt.shaped (.list (ms.map waD)) = true := by
  have h1 : PyData.canLayAll0 (ms.map waD) = true := by
    induction ms with
    | nil => simp only [List.map_nil, PyData.canLayAll0]
    | cons q ms ih =>
      have : PyData.canLay0 (ageD q.2) = true := by unfold ageD; split <;> simp only [PyData.canLay0]
      simp only [List.map_cons, PyData.canLayAll0, waD, PyData.canLay0, ints_lay, this, ih, Bool.and_self]
  have h2 : PyData.depthAll (ms.map waD) ≤ 8 := depthAll_le.mpr fun d hd => by
    obtain ⟨q, _, rfl⟩ := List.mem_map.mp hd
    exact waD_deep q
  have h4 : PyData.depth (.list (ms.map waD)) ≤ 64 := by simp only [PyData.depth]; omega
  have h5 : PyData.canLay0 (.list (ms.map waD)) = true := by simp only [PyData.canLay0, h1]
  exact Bool.and_eq_true_iff.mpr ⟨h5, decide_eq_true h4⟩
theorem was_dps {K : PySem.W.Frag} {H : Hp} : ∀ {vs : List V} {ls : List Wa}, WasAt K H vs ls → DpAll K H vs (ls.map waD)
  | _, _, .nil => .nil
  | _, _, .cons r t => .cons r.dp (was_dps t)
theorem none_world {z r g : Int} {qs : List (Int × Int)} {k : Nat} : ((pastsL z r g qs k).filter fun p => toldB (qs.getD k (-1, -1)) p.1) = [] ↔ ∀ v, WorldP z r g qs k v → toldB (qs.getD k (-1, -1)) v.1 = false := by
  rw [List.filter_eq_nil_iff]
  constructor
  · rintro h v ⟨p, hp, rfl⟩
    exact Bool.eq_false_iff.mpr (h p hp)
  · intro h p hp
    have := h _ ⟨p, hp, rfl⟩
    have e : toldB (qs.getD k (-1, -1)) p.1 = false := this
    rw [e]
    decide
def sp_lworlds59 (K : PySem.W.Frag) (w : World) : Sp := fun vs H Q _ => ∃ (th lt : Addr) (z r g : Int) (fs : List V) (qs : List (Int × Int)), vs = [.ref th, .ref lt] ∧ SqT K H th [.int z, .int r, .int g] ∧ HouseOf 81 z r g ∧ SqT K H lt fs ∧ DpAll K H fs (qs.map pairD) ∧ PairsSo z qs ∧ qs.length ≤ 30 ∧
  ∀ (l F : Addr) (y : V) (us : List V) (J : Hp), Same H J → J l = some (.lst [.ref F, y]) → J F = some (.lst us) → ((noneAt z r g qs = none ∧ y = .non ∧ ∃ ms : List Wa, WasAt K J us ms ∧ ms.length ≤ 300 ∧ ∀ x, x ∈ ms ↔ WorldP z r g qs qs.length x) ∨ ∃ k : Nat, noneAt z r g qs = some k ∧ y = .int (k : Int)) → Q (.ref l) J
section
variable {P : Program} {w : World} {K : PySem.W.Frag} {mg : Str → Option Value} {base : Heap}
theorem ok_lworlds59 (T : Txt K mg) : FnOk P w K mg base CX0 3 T.a_worlds T.d_worlds ["_law_house_here", "_law_log_here"] (sp_lworlds59 K w) := by
  have G_begun : FnOk P w K mg base CX0 2 T.a_begun T.d_begun ["_law_house_here"] (sp_lbegun K w) := ok_lbegun T
  have G_next_worlds : FnOk P w K mg base CX0 2 T.a_next_worlds T.d_next_worlds ["_law_house_here", "_law_worlds_here"] (sp_lnext59 K w) := ok_lnext59 T
  have G_said : FnOk P w K mg base CX0 1 T.a_said T.d_said ["_law_heads", "_law_server"] (sp_said K) := ok_said T
  refine T.F_worlds.ok sc_worlds (fun vs H Q E h => ?_) (fun cdv A outer s H vs Q E hr h => ?_)
  · obtain ⟨th, lt, z, r, g, fs, qs, rfl, _⟩ := h
    rfl
  · obtain ⟨th, lt, z, r, g, fs, qs, rfl, hth, hz, hlt, dq, so, l30, kk⟩ := h
    refine ⟨_, (pss_cons (ps_set (i := 2) sc_worlds.nd rfl (Or.inl rfl) (pe_call G_begun (hr.mono (by omega)) (by rfl) T.g_begun T.F_begun.kp T.b_begun .nil pass0 (pa_cons (pv 0) pa_nil)))
      (pss_cons (ps_for PassesOwn.never rfl (pi_enumT (by rfl) T.m_enumerate (pa_cons (pv 1) pa_nil)) (pg_tup (by rfl) (pgs_cons (pg_name (i := 3) sc_worlds.nd rfl (Or.inl rfl)) (pgs_cons (pg_tup (by rfl) (pgs_cons (pg_name (i := 4) sc_worlds.nd rfl (Or.inr rfl)) (pgs_cons (pg_name (i := 5) sc_worlds.nd rfl (Or.inr rfl)) pgs_nil))) pgs_nil)))
        (Evl.pss_cut (ps_if (pt_cmpR op_ne (pv 4) (pe_un un_neg pe_int) (nomark _))
        (pss_one (ps_setLc (i := 2) (own := [("_law_world", 6)]) (g := gName 6) (by rfl) sc_worlds.nd rfl rfl (sw_true rfl rfl rfl (by decide +kernel)) (pi_list (pv 2)) (blkOk_by (own := [("_law_world", 6)]) (N := ["_law_house_here", "_law_log_here", "_law_worlds_here", "_law_at", "_law_server", "_law_name", "_law_world"]) (sc := defScope s_worlds) (by decide +kernel)) (fun _ _ _ _ _ => (pg_name (i := 6) sc_worlds.nd rfl (Or.inl rfl))) (fun _ _ _ _ _ => (pts_one (pt_cmpR (inK K rfl) (pv 5) (pe_call G_said (hr.mono (by omega)) (by rfl) T.g_said T.F_said.kp T.b_said .nil pass0 (pa_cons (pe_ix (ixTK K rfl) (pv 6) pe_int (fun _ _ => rfl)) (pa_cons (pv 4) pa_nil))) (by rfl)))) (fun _ _ _ _ _ => (pv 6))))
        pss_nil)
      (pss_cons (ps_if (pt_cmpR (op_eqD hr.units) (pv 2) (pe_lst pa_nil) (nomark _))
        (pss_one (ps_ret (pe_lst (pa_cons (pv 2) (pa_cons (pv 3) pa_nil)))))
        pss_nil)
      (pss_one (ps_set (i := 2) sc_worlds.nd rfl (Or.inl rfl) (pe_call G_next_worlds (hr.mono (by omega)) (by rfl) T.g_next_worlds T.F_next_worlds.kp T.b_next_worlds .nil pass0 (pa_cons (pv 0) (pa_cons (pv 2) pa_nil))))))))
      (pss_one (ps_ret (pe_lst (pa_cons (pv 2) (pa_cons pe_non pa_nil))))))), ?_⟩
    obtain ⟨z2, z4, r1, r6, g0, g3, _⟩ := id hz
    obtain ⟨gn, rfl⟩ : ∃ n : Nat, g = (n : Int) := ⟨g.toNat, (Int.toNat_of_nonneg g0).symm⟩
    have few := few_pasts hz l30
    have lfs := dpAll_len dq
    rw [List.length_map] at lfs
    refine ⟨_, rfl, th, z, r, gn, rfl, hth, hz, fun F0 us0 ms0 J0 S0 hF0 pw0 nd0 mem0 => ?_⟩
    refine ⟨_, rfl, lt, fs, rfl, sameT S0 hlt, for_it (walk_enumT (K := K) (a := lt) (xs := fs) (c := 0)) (fun i σ J => ∃ (y3 y4 y5 : Option V) (F : Addr) (us : List V) (ms : List Wa), σ = [some (.ref th), some (.ref lt), some (.ref F), y3, y4, y5, none] ∧ Same H J ∧ J F = some (.lst us) ∧ WasAt K J us ms ∧ ms.Nodup ∧ (∀ x, x ∈ ms ↔ WorldP z r (gn : Int) qs i x) ∧ ∀ j, j < i → ((pastsL z r (gn : Int) qs j).filter fun p => toldB (qs.getD j (-1, -1)) p.1) ≠ []) ⟨_, _, _, F0, us0, ms0, rfl, S0, hF0, pw0, nd0, fun x => by rw [mem0]; exact world_first.symm, fun j hj => absurd hj (Nat.not_lt_zero j)⟩ (fun i σ J _ ⟨_, _, _, _, _, _, _, S, _⟩ => sameT S hlt) ?_ ?_⟩
    · rintro i x σ M M' hi ⟨y3, y4, y5, F, us, ms, rfl, S, hF, pw, nd, mem, good⟩ ⟨Tp, x1, x2, rfl, hTn, rfl, e1, hxi⟩
      cases e1
      obtain ⟨dq2, hdq, dx⟩ := dpAll_get dq hxi
      rw [List.getElem?_map] at hdq
      obtain ⟨qr, hqr, rfl⟩ := Option.map_eq_some_iff.mp hdq
      have hiq : i < qs.length := (List.getElem?_eq_some_iff.mp hqr).1
      have eqr : qs.getD i (-1, -1) = qr := by rw [List.getD_eq_getElem?_getD, hqr]; rfl
      obtain ⟨pt, rfl, spt⟩ := dp_two dx
      have sT : Same M (upd M Tp (.tup [.int (0 + (i : Int)), .ref pt])) := same_new hTn
      have hTp : upd M Tp (.tup [.int (0 + (i : Int)), .ref pt]) Tp = some (.tup [.int (0 + (i : Int)), .ref pt]) := upd_same
      have S1 := S.trans sT
      have hF1 := sT _ _ hF
      have pw1 := WasAt.same pw sT
      generalize upd M Tp (.tup [.int (0 + (i : Int)), .ref pt]) = M1 at *
      refine ⟨Tp, _, rfl, SqT.of hTp, rfl, _, _, rfl, _, _, rfl, ?_⟩
      refine ⟨pt, _, rfl, sameT S1 spt, rfl, _, _, rfl, _, _, rfl, rfl, rfl, ?_⟩
      have fewi := few_wa few (by omega : i ≤ qs.length) nd fun d hd => (mem d).mp hd
      have long : ∀ p ∈ ms, p.1.length = gn + 1 := fun p hp => wa_long ((mem p).mp hp)
      have aged : ∀ p ∈ ms, -1 ≤ p.2 := fun p hp => by
        obtain ⟨q, hq, rfl⟩ := (mem p).mp hp
        exact (past_aged r1 g0 i q hq).2
      have qso := so qr (List.mem_of_getElem? hqr)
      have lus := was_len pw1
      refine ⟨fun σ' J => ∃ (F2 : Addr) (us2 : List V), σ' = [some (.ref th), some (.ref lt), some (.ref F2), some (.int (i : Int)), some (.int qr.1), some (.int qr.2), none] ∧ Same H J ∧ J F2 = some (.lst us2) ∧ WasAt K J us2 (ms.filter fun p => toldB qr p.1), ?_, ?_⟩
      · refine ⟨_, rfl, 1, rfl, rfl, _, rfl, ?_⟩
        rw [show decide (V.int qr.1 = V.int (-1)) = decide (qr.1 = -1) by simp only [V.int.injEq]]
        by_cases e : qr.1 = -1
        · rw [decide_eq_true e]
          refine iteF ⟨F, us, by rw [Int.zero_add]; rfl, S1, hF1, ?_⟩
          have e2 := qso.2.2.2.2 e
          rw [List.filter_eq_self.mpr fun p hp => by unfold toldB; rw [e, e2]; rfl]
          exact pw1
        · rw [decide_eq_false e]
          refine iteT ⟨_, rfl, F, rfl, ⟨_, SqL.of hF1⟩, fun D hD => ?_⟩
          refine lc_list (K := K) (a := F) (xs := us) (fun m L => ∃ vs : List V, Same M1 L ∧ L D = some (.lst vs) ∧ vs.length ≤ m ∧ WasAt K L vs ((ms.take m).filter fun p => toldB qr p.1)) ⟨[], same_new hD, upd_same, Nat.le_refl _, .nil⟩ (fun m L _ ⟨_, SL, _⟩ => SqL.of (SL _ _ hF1)) ?_ ?_
          · rintro m v L hv ⟨vs, SL, hL, lv, dv⟩
            obtain ⟨p, hp, hwa⟩ := was_nth pw1 hv
            have hml : m < us.length := (List.getElem?_eq_some_iff.mp hv).1
            have pn := long p (List.mem_of_getElem? hp)
            obtain ⟨b, c, rfl, hb, hc⟩ := hwa.same SL
            have e6 : (ms.take (m + 1)).filter (fun p => toldB qr p.1) = (ms.take m).filter (fun p => toldB qr p.1) ++ if toldB qr p.1 = true then [p] else [] := by
              rw [List.take_add_one, hp, List.filter_append]
              simp only [Option.toList_some, List.filter_cons, List.filter_nil]
            have eT : toldB qr p.1 = decide (qr.2 ∈ ahead qr.1 p.1) := by
              unfold toldB
              rw [decide_eq_false e, Bool.false_and, Bool.false_or]
            refine ⟨rfl, ?_⟩
            refine ⟨_, rfl, _, rfl, b, _, 0, _, rfl, rfl, hb, rfl, _, rfl, c, qr.1, p.1, rfl, hc, by omega, fun out t L2 so2 S2 ht => ?_⟩
            refine ⟨t, _, rfl, .inr (SqT.of ht), rfl, flat_ints _, ?_⟩
            rw [if_neg (by decide), inV_ints]
            have e7 : out.contains qr.2 = toldB qr p.1 := by rw [eT, Bool.eq_iff_iff, List.contains_iff_mem, decide_eq_true_iff]; exact so2.2 qr.2
            rw [e7]
            have hL2 := S2 _ _ hL
            refine ⟨_, rfl, ite2 (fun hk => ?_) (fun hk => ?_)⟩
            · rw [if_pos hk] at e6
              refine ⟨_, rfl, vs, hL2, Nat.lt_of_lt_of_le (by omega : vs.length < 1000) (by decide), vs ++ [.ref b], writeS (SL.trans S2) hD, upd_same, by rw [List.length_append, List.length_singleton]; omega, ?_⟩
              rw [e6]
              exact pairW_app (paired_mono (fun _ _ h => h.put hL2) (WasAt.same dv S2)) (.cons ((hwa.same (SL.trans S2)).put hL2) .nil)
            · rw [if_neg hk, List.append_nil] at e6
              exact ⟨vs, SL.trans S2, hL2, by omega, by rw [e6]; exact WasAt.same dv S2⟩
          · rintro L ⟨vs, SL, hL, lv, dv⟩
            rw [lus, List.take_length] at dv
            exact ⟨D, vs, by rw [Int.zero_add]; rfl, S1.trans SL, hL, dv⟩
      · rintro σ' J ⟨F2, us2, rfl, SJ, hF2, pw2⟩
        have memF : ∀ x, x ∈ ms.filter (fun p => toldB qr p.1) ↔ WorldP z r (gn : Int) qs i x ∧ toldB (qs.getD i (-1, -1)) x.1 = true := fun x => by
          rw [eqr, List.mem_filter, mem]
        have lenF : (ms.filter fun p => toldB qr p.1).length ≤ 298 := Nat.le_trans (List.length_filter_le _ _) (by omega)
        have inF : ∀ p ∈ ms.filter (fun p => toldB qr p.1), p.1.length = gn + 1 ∧ -1 ≤ p.2 := fun p hp => ⟨long p (List.mem_filter.mp hp).1, aged p (List.mem_filter.mp hp).1⟩
        generalize (ms.filter fun p => toldB qr p.1) = fit at pw2 memF lenF inF
        refine ⟨_, rfl, Nat.zero_le _, fun u hu => ?_⟩
        have su : Same J (upd J u (.lst [])) := same_new hu
        refine ⟨PyData.list (fit.map waD), .list [], .lst (SqL.of (su _ _ hF2)) (was_dps (WasAt.same pw2 su)), .lst (SqL.of upd_same) .nil, was_shaped fit, by decide, _, rfl, ?_⟩
        rw [list_nil, List.isEmpty_map]
        have SJ2 := SJ.trans su
        have hF3 := su _ _ hF2
        have pw3 := WasAt.same pw2 su
        generalize upd J u (.lst []) = J2 at SJ2 hF3 pw3 ⊢
        cases fit with
        | nil =>
          refine iteT ⟨_, rfl, _, rfl, by show 2 ≤ sizeLine; decide, fun l hl => ?_⟩
          have s2 := same_new (o := .lst [.ref F2, .int (i : Int)]) hl
          refine kk l F2 (.int (i : Int)) us2 _ (SJ2.trans s2) upd_same (s2 _ _ hF3) (.inr ⟨i, ?_, rfl⟩)
          unfold noneAt
          rw [find_first]
          refine ⟨hiq, ?_, fun j hj => ?_⟩
          · rw [List.isEmpty_iff, none_world]
            intro v hv
            cases ht : toldB (qs.getD i (-1, -1)) v.1 with
            | false => rfl
            | true => exact absurd ((memF v).mpr ⟨hv, ht⟩) List.not_mem_nil
          · have := good j hj
            simpa using this
        | cons f0 fit =>
          refine iteF ⟨_, rfl, _, rfl, th, F2, z, r, gn, us2, f0 :: fit, rfl, sameT SJ2 hth, hz, hF3, pw3, by omega, inF, fun l us4 ms4 J4 S4 hl4 pw4 nd4 mem4 => ?_⟩
          refine ⟨_, _, _, l, us4, ms4, rfl, SJ2.trans S4, hl4, pw4, nd4, fun x => ?_, fun j hj => ?_⟩
          · rw [mem4, world_next r1 g0]
            exact ⟨fun ⟨p, a, b⟩ => ⟨p, ((memF p).mp a).1, ((memF p).mp a).2, b⟩, fun ⟨p, a, b, c⟩ => ⟨p, (memF p).mpr ⟨a, b⟩, c⟩⟩
          · by_cases e : j = i
            · rw [e]
              intro z0
              obtain ⟨h1, h2⟩ := (memF f0).mp List.mem_cons_self
              rw [none_world.mp z0 f0 h1] at h2
              cases h2
            · exact good j (by omega)
    · rintro σ M ⟨y3, y4, y5, F, us, ms, rfl, S, hF, pw, nd, mem, good⟩
      rw [lfs] at mem good
      have none : noneAt z r (gn : Int) qs = none := by
        unfold noneAt
        rw [List.find?_eq_none]
        intro j hj
        have := good j (List.mem_range.mp hj)
        simpa using this
      refine ⟨_, rfl, by show 2 ≤ sizeLine; decide, fun l hl => ?_⟩
      have s2 := same_new (o := .lst [.ref F, .non]) hl
      refine kk l F .non us _ (S.trans s2) upd_same (s2 _ _ hF) (.inl ⟨none, rfl, ms, WasAt.same pw s2, ?_, mem⟩)
      have := few_wa few (Nat.le_refl _) nd fun d hd => (mem d).mp hd
      omega
end

/-! ### there is a course as long as no pair bars all -/
theorem zeros_kept (r : Int) : ∀ n : Nat, keptB (List.replicate (n + 1) 0) r = true
  | 0 => rfl
  | n + 1 => by
    have e : List.replicate (n + 1 + 1) (0 : Int) = List.replicate (n + 1) 0 ++ [0] := by rw [List.replicate_succ']
    have hl : (List.replicate (n + 1) (0 : Int)).getLast? = some 0 := by rw [List.getLast?_replicate]; simp
    rw [e, kept_last hl]
    exact zeros_kept r n
theorem lawC_some {z r g : Int} {qs : List (Int × Int)} (z2 : 2 ≤ z) (g0 : 0 ≤ g) (r1 : 1 ≤ r) (h : noneAt z r g qs = none) : ∀ k : Nat, k ≤ qs.length → lawC z r g qs k ≠ []
  | 0, _ => by
    have m : List.replicate (g.toNat + 1) (0 : Int) ∈ lawC z r g qs 0 := by
      refine List.mem_filter.mpr ⟨allR_all (by rw [List.length_replicate]; omega) fun x hx => ?_, zeros_kept r g.toNat⟩
      rw [List.eq_of_mem_replicate hx]
      omega
    exact fun e => by rw [e] at m; exact absurd m List.not_mem_nil
  | k + 1, hk => by
    rw [none_lawC g0 r1, List.find?_eq_none] at h
    have hn := h k (List.mem_range.mpr (by omega))
    obtain ⟨c, hc⟩ := List.exists_mem_of_ne_nil ((lawC z r g qs k).filter (fitC g (qs.getD k (-1, -1)))) (by simpa using hn)
    obtain ⟨lc, cz, kc⟩ := lawC_in g0 (List.mem_filter.mp hc).1
    obtain ⟨la, hla, hm⟩ := last_is (n := g.toNat + k) (by omega : c.length = g.toNat + k + 1)
    have lz := cz la hm
    have m : c ++ [la] ∈ lawC z r g qs (k + 1) := by
      refine List.mem_filter.mpr ⟨mem_extR.mpr ⟨c, hc, la.toNat, by omega, by rw [show ((la.toNat : Nat) : Int) = la by omega]⟩, ?_⟩
      rw [kept_last hla]
      exact kc
    exact fun e => by rw [e] at m; exact absurd m List.not_mem_nil

theorem ages_dp {K : PySem.W.Frag} {H : Hp} : ∀ A : List Int, DpAll K H (A.map ageV) (A.map ageD)
  | [] => .nil
  | a :: A => .cons (age_dp a) (ages_dp A)
theorem ages_shaped (A : List Int) : SeqAt.shaped (.list (A.map ageD)) = true := by
  have h1 : PyData.canLayAll0 (A.map ageD) = true := by
    induction A with
    | nil => simp only [List.map_nil, PyData.canLayAll0]
    | cons x r ih =>
      have e : PyData.canLay0 (ageD x) = true := by unfold ageD; split <;> simp only [PyData.canLay0]
      simp only [List.map_cons, PyData.canLayAll0, e, ih, Bool.and_self]
  have h2 : PyData.depthAll (A.map ageD) ≤ 0 := depthAll_le.mpr fun d hd => by
    obtain ⟨q, _, rfl⟩ := List.mem_map.mp hd
    unfold ageD
    split <;> simp [PyData.depth]
  have h4 : PyData.depth (.list (A.map ageD)) ≤ 64 := by simp only [PyData.depth]; omega
  have h5 : PyData.canLay0 (.list (A.map ageD)) = true := by simp only [PyData.canLay0, h1]
  exact Bool.and_eq_true_iff.mpr ⟨h5, decide_eq_true h4⟩
theorem ages_none (A : List Int) : ((A.map ageD).any fun z => PyData.eqv z .none) = decide (-1 ∈ A) := by
  rw [Bool.eq_iff_iff, List.any_eq_true, decide_eq_true_iff]
  constructor
  · rintro ⟨d, hd, e⟩
    obtain ⟨x, hx, rfl⟩ := List.mem_map.mp hd
    unfold ageD at e
    split at e
    · rename_i h
      exact h ▸ hx
    · simp [PyData.eqv] at e
  · intro h
    exact ⟨_, List.mem_map.mpr ⟨-1, h, rfl⟩, by simp [ageD, PyData.eqv]⟩
theorem last_most : ∀ {l : List Int} {M : Int}, l.Pairwise (· ≤ ·) → l.getLast? = some M → ∀ x ∈ l, x ≤ M
  | [], _, _, h, _, _ => by cases h
  | [y], _, _, h, x, hx => by
    rw [List.mem_singleton.mp hx]
    cases h
    exact Int.le_refl _
  | y :: u :: t, M, so, h, x, hx => by
    obtain ⟨a, b⟩ := List.pairwise_cons.mp so
    rw [List.getLast?_cons_cons] at h
    have ih := last_most b h
    rcases List.mem_cons.mp hx with e | e
    · rw [e]
      exact a M (List.mem_of_getLast? h)
    · exact ih x e
/-! ### what both must tell, by the law -/
def DueD (z r g : Int) (qs : List (Int × Int)) (d : PyData) : Prop :=
  (noneAt z r g qs = none ∧ ∃ (out : List Int) (d2 : PyData), Sorted out ((pastsL z r g qs qs.length).map fun p => p.1.headD 0) ∧ LastD ((pastsL z r g qs qs.length).map fun p => p.2.2) d2 ∧ d = .list [.tuple (out.map PyData.int), d2]) ∨
    ∃ k : Nat, noneAt z r g qs = some k ∧ d = .list [.list [.int (k : Int)], .list [.int (k : Int)]]
def sp_ldue59 (K : PySem.W.Frag) : Sp := fun vs H Q _ => ∃ (th lt : Addr) (z r g : Int) (fs : List V) (qs : List (Int × Int)), vs = [.ref th, .ref lt] ∧ SqT K H th [.int z, .int r, .int g] ∧ HouseOf 81 z r g ∧ SqT K H lt fs ∧ DpAll K H fs (qs.map pairD) ∧ PairsSo z qs ∧ qs.length ≤ 30 ∧
  ∀ (l : Addr) (d : PyData) (J : Hp), DueD z r g qs d → Same H J → Dp K J (.ref l) d → Q (.ref l) J
section
variable {P : Program} {w : World} {K : PySem.W.Frag} {mg : Str → Option Value} {base : Heap}
theorem ok_ldue59 (T : Txt K mg) : FnOk P w K mg base CX0 4 T.a_due T.d_due ["_law_house_here", "_law_log_here"] (sp_ldue59 K) := by
  have G_worlds : FnOk P w K mg base CX0 3 T.a_worlds T.d_worlds ["_law_house_here", "_law_log_here"] (sp_lworlds59 K w) := ok_lworlds59 T
  refine T.F_due.ok sc_due (fun vs H Q E h => ?_) (fun cdv A outer s H vs Q E hr h => ?_)
  · obtain ⟨th, lt, z, r, g, fs, qs, rfl, _⟩ := h
    rfl
  · obtain ⟨th, lt, z, r, g, fs, qs, rfl, hth, hz, hlt, dq, so, l30, k⟩ := h
    refine ⟨_, (pss_cons (ps_asg (pe_call G_worlds (hr.mono (by omega)) (by rfl) T.g_worlds T.F_worlds.kp T.b_worlds .nil pass0 (pa_cons (pv 0) (pa_cons (pv 1) pa_nil))) (pg_unl rfl (pgs_cons (pg_name (i := 2) sc_due.nd rfl (Or.inl rfl)) (pgs_cons (pg_name (i := 3) sc_due.nd rfl (Or.inl rfl)) pgs_nil))))
      (pss_cons (ps_if (pt_cmpR op_notN (pv 3) pe_non (nomark _))
        (pss_one (ps_ret (pe_lst (pa_cons (pe_lst (pa_cons (pv 3) pa_nil)) (pa_cons (pe_lst (pa_cons (pv 3) pa_nil)) pa_nil)))))
        pss_nil)
      (pss_cons (ps_setLc (i := 4) (own := [("_law_heads", 5), ("_law_age", 6)]) (g := gTup K 2 (gCons (gName 5) (gCons (gName 6) gNil))) (by rfl) sc_due.nd rfl rfl (sw_true rfl rfl rfl (by decide +kernel)) (pi_list (pv 2)) (blkOk_by (own := [("_law_heads", 5), ("_law_age", 6)]) (N := ["_law_house_here", "_law_log_here", "_law_worlds_here", "_law_none_at", "_law_ages", "_law_heads", "_law_age", "_law_real", "_law_pair"]) (sc := defScope s_due) (by decide +kernel)) (fun _ _ _ _ _ => (pg_pairK K (i := 5) (j := 6) rfl rfl sc_due.nd rfl (Or.inl rfl) rfl (Or.inl rfl))) (fun _ _ _ _ _ => pts_nil) (fun _ _ _ _ _ => (pv 6)))
      (pss_cons (ps_set (i := 7) sc_due.nd rfl (Or.inl rfl) (pe_callB (id := "sorted") cr_sortedI (by rfl) T.m_sorted (by decide +kernel) (pa_cons (pe_lc (own := [("_law_age", 6)]) (g := gName 6) (by rfl) sc_due.nd (pi_list (pv 4)) (blkOk_by (own := [("_law_age", 6)]) (N := ["_law_house_here", "_law_log_here", "_law_worlds_here", "_law_none_at", "_law_ages", "_law_heads", "_law_age", "_law_real", "_law_pair"]) (sc := defScope s_due) (by decide +kernel)) (fun _ _ _ _ _ => (pg_name (i := 6) sc_due.nd rfl (Or.inl rfl))) (fun _ _ _ _ _ => (pts_one (pt_cmpR op_notN (pv 6) pe_non (nomark _)))) (fun _ _ _ _ _ => (pv 6))) pa_nil)))
      (Evl.pss_cut (ps_set (i := 8) sc_due.nd rfl (Or.inl rfl) (pe_tup (pa_cons (pe_ifExp (pt_cmpR (op_neD hr.units) (pv 7) (pe_lst pa_nil) (nomark _)) (pe_ix ix_list (pv 7) pe_int (fun _ _ => rfl)) pe_non) (pa_cons (pe_ifExp (pt_cmpR (op_inD (hu65 hr)) pe_non (pv 4) (by rfl)) pe_non (pe_ix ix_list (pv 7) (pe_un un_neg pe_int) (fun _ _ => rfl))) pa_nil))))
      (pss_one (ps_ret (pe_lst (pa_cons (pe_callTy (T := "tuple") call_tuple_of (by rfl) T.m_tuple (by decide +kernel) (pa_cons (pe_callB (id := "sorted") (cr_sortedFew rfl) (by rfl) T.m_sorted (by decide +kernel) (pa_cons (pe_callTy (T := "set") (cr_setN rfl) (by rfl) T.m_set (by decide +kernel) (pa_cons (pe_lc (own := [("_law_heads", 5), ("_law_age", 6)]) (g := gTup K 2 (gCons (gName 5) (gCons (gName 6) gNil))) (by rfl) sc_due.nd (pi_list (pv 2)) (blkOk_by (own := [("_law_heads", 5), ("_law_age", 6)]) (N := ["_law_house_here", "_law_log_here", "_law_worlds_here", "_law_none_at", "_law_ages", "_law_heads", "_law_age", "_law_real", "_law_pair"]) (sc := defScope s_due) (by decide +kernel)) (fun _ _ _ _ _ => (pg_pairK K (i := 5) (j := 6) rfl rfl sc_due.nd rfl (Or.inl rfl) rfl (Or.inl rfl))) (fun _ _ _ _ _ => pts_nil) (fun _ _ _ _ _ => (pe_ix (ixTK K rfl) (pv 5) pe_int (fun _ _ => rfl)))) pa_nil)) pa_nil)) pa_nil)) (pa_cons (pv 8) pa_nil)))))))))), ?_⟩
    obtain ⟨z2, z4, r1, r6, g0, g3, _⟩ := id hz
    refine ⟨_, rfl, _, rfl, th, lt, z, r, g, fs, qs, rfl, hth, hz, hlt, dq, so, l30, fun l F y us J S hl hF alt => ?_⟩
    refine ⟨l, _, rfl, SqL.of hl, rfl, _, _, rfl, _, _, rfl, rfl, ?_⟩
    rcases alt with ⟨hn, rfl, ms, pw, lm, mem⟩ | ⟨n, hn, rfl⟩
    · refine ⟨_, rfl, rfl, _, rfl, iteF ?_⟩
      show tSeq _ _ _ _ J
      have lus := was_len pw
      refine ⟨_, rfl, F, rfl, ⟨_, SqL.of hF⟩, fun D hD => ?_⟩
      refine lc_list (K := K) (a := F) (xs := us) (fun i L => Same J L ∧ L D = some (.lst (((ms.take i).map fun p => p.2).map ageV))) ⟨same_new hD, upd_same⟩ (fun i L _ ⟨SL, _⟩ => SqL.of (SL _ _ hF)) ?_ ?_
      · rintro m v L hv ⟨SL, hL⟩
        obtain ⟨p, hp, hwa⟩ := was_nth pw hv
        have hml : m < us.length := (List.getElem?_eq_some_iff.mp hv).1
        obtain ⟨b, c, rfl, hb, hc⟩ := hwa.same SL
        refine ⟨b, _, rfl, hb, rfl, _, _, rfl, _, _, rfl, rfl, ?_⟩
        refine ⟨rfl, ?_⟩
        unfold tYes
        refine iteT ⟨_, rfl, _, hL, Nat.lt_of_lt_of_le (by rw [List.length_map, List.length_map, List.length_take]; omega : _ < 1000) (by decide), writeS SL hD, ?_⟩
        rw [upd_same, List.take_add_one, hp, List.map_append, List.map_append]
        rfl
      · rintro L ⟨SL, hL⟩
        rw [lus, List.take_length] at hL
        have es : ∀ x, x ∈ (ms.map fun p => p.2) ↔ x ∈ (pastsL z r g qs qs.length).map fun p => p.2.2 := fun x => by
          rw [List.mem_map, List.mem_map]
          exact ⟨fun ⟨p, hp, e⟩ => by obtain ⟨q, hq, rfl⟩ := (mem p).mp hp; exact ⟨q, hq, e⟩, fun ⟨q, hq, e⟩ => ⟨projA q, (mem _).mpr ⟨q, hq, rfl⟩, e⟩⟩
        have eh : ∀ x, x ∈ (ms.map fun p => p.1.headD 0) ↔ x ∈ (pastsL z r g qs qs.length).map fun p => p.1.headD 0 := fun x => by
          rw [List.mem_map, List.mem_map]
          exact ⟨fun ⟨p, hp, e⟩ => by obtain ⟨q, hq, rfl⟩ := (mem p).mp hp; exact ⟨q, hq, e⟩, fun ⟨q, hq, e⟩ => ⟨projA q, (mem _).mpr ⟨q, hq, rfl⟩, e⟩⟩
        have longM : ∀ p ∈ ms, p.1.length = g.toNat + 1 := fun p hp => by
          have h := (mem p).mp hp
          rw [show g = ((g.toNat : Nat) : Int) by omega] at h
          exact wa_long h
        have inz : ∀ x, x ∈ (ms.map fun p => p.1.headD 0) → x ∈ (List.range z.toNat).map (fun i : Nat => (i : Int)) := fun x hx => by
          obtain ⟨p, hp, rfl⟩ := List.mem_map.mp hx
          obtain ⟨q, hq, rfl⟩ := (mem p).mp hp
          obtain ⟨u0, u1⟩ := heads_z (qs := qs) g0 r1 q hq
          show q.1.headD 0 ∈ _
          exact List.mem_map.mpr ⟨(q.1.headD 0).toNat, List.mem_range.mpr (by omega), by omega⟩
        have mne : ms ≠ [] := fun e => by
          obtain ⟨c, hc⟩ := List.exists_mem_of_ne_nil _ (lawC_some (qs := qs) z2 g0 r1 hn qs.length (Nat.le_refl _))
          have := (mem (projA (pastI g.toNat r c))).mpr ⟨_, (past_lawC g0 r1).mpr ⟨c, hc, rfl⟩, rfl⟩
          rw [e] at this
          exact absurd this List.not_mem_nil
        have ane : (ms.map fun p => p.2) ≠ [] := fun e => mne (List.map_eq_nil_iff.mp e)
        have la : (ms.map fun p => p.2).length ≤ 3000 := by rw [List.length_map]; omega
        generalize (ms.map fun p => p.2) = A at hL ane la es
        show gName 4 (V.ref D) _ L _
        refine ⟨_, rfl, D, rfl, ⟨_, SqL.of hL⟩, fun D2 hD2 => ?_⟩
        refine lc_list (K := K) (a := D) (xs := A.map ageV) (fun i M => Same L M ∧ M D2 = some (.lst (((A.take i).filter fun x => !decide (x = -1)).map V.int))) ⟨same_new hD2, upd_same⟩ (fun i M _ ⟨SM, _⟩ => SqL.of (SM _ _ hL)) ?_ ?_
        · rintro m v M hv ⟨SM, hM⟩
          rw [List.getElem?_map] at hv
          obtain ⟨x, hx, rfl⟩ := Option.map_eq_some_iff.mp hv
          have hml : m < A.length := (List.getElem?_eq_some_iff.mp hx).1
          have e6 : (A.take (m + 1)).filter (fun x => !decide (x = -1)) = (A.take m).filter (fun x => !decide (x = -1)) ++ if (!decide (x = -1)) = true then [x] else [] := by
            rw [List.take_add_one, hx, List.filter_append]
            simp only [Option.toList_some, List.filter_cons, List.filter_nil]
          have vd : decide (ageV x = V.non) = decide (x = -1) := by
            unfold ageV
            by_cases e : x = -1
            · rw [if_pos e, decide_eq_true rfl, decide_eq_true e]
            · rw [if_neg e, decide_eq_false (fun z => nomatch z), decide_eq_false e]
          refine ⟨rfl, ?_⟩
          refine ⟨_, rfl, rfl, _, rfl, ?_⟩
          rw [vd]
          refine ite2 (fun e => ?_) (fun e => ?_)
          · rw [if_pos e] at e6
            have xn : ageV x = .int x := by
              unfold ageV
              rw [if_neg (fun z => by rw [decide_eq_true z] at e; cases e)]
            refine ⟨_, rfl, _, hM, Nat.lt_of_lt_of_le (by rw [List.length_map]; exact Nat.lt_of_le_of_lt (Nat.le_trans (List.length_filter_le _ _) (by rw [List.length_take]; omega : _ ≤ 3000)) (by decide : 3000 < 10000)) (by decide), writeS SM hD2, ?_⟩
            rw [upd_same, e6, List.map_append, xn]
            rfl
          · rw [if_neg e, List.append_nil] at e6
            exact ⟨SM, by rw [e6]; exact hM⟩
        · rintro M ⟨SM, hM⟩
          rw [List.length_map, List.take_length] at hM
          have memc : ∀ x, x ∈ A.filter (fun x => !decide (x = -1)) ↔ x ∈ A ∧ x ≠ -1 := fun x => by
            rw [List.mem_filter]
            simp
          generalize (A.filter fun x => !decide (x = -1)) = cs at hM memc
          have SLM := SL.trans SM
          have hDM := SM _ _ hL
          refine ⟨D2, cs, rfl, SqL.of hM, fun rs D3 pm so hD3 => ?_⟩
          have memr : ∀ x, x ∈ rs ↔ x ∈ A ∧ x ≠ -1 := fun x => (pm.mem_iff).trans (memc x)
          have S3 : Same M (upd M D3 (.lst (rs.map V.int))) := same_new hD3
          have R3 : (upd M D3 (.lst (rs.map V.int))) D3 = some (.lst (rs.map V.int)) := upd_same
          have SH := SLM.trans S3
          have hD4 := S3 _ _ hDM
          show gName 7 (V.ref D3) _ (upd M D3 (.lst (rs.map V.int))) _
          generalize upd M D3 (.lst (rs.map V.int)) = N at S3 R3 SH hD4 ⊢
          refine ⟨fun σ' J' => ∃ (t : Addr) (d2 : PyData), σ' = [some (.ref th), some (.ref lt), some (.ref F), some .non, some (.ref D), none, none, some (.ref D3), some (.ref t)] ∧ Same J J' ∧ LastD A d2 ∧ Dp K J' (.ref t) d2, ?_, ?_⟩
          · refine ⟨_, rfl, Nat.zero_le _, fun q hq => ?_⟩
            have sq : Same N (upd N q (.lst [])) := same_new hq
            refine ⟨.list (rs.map PyData.int), .list [], .lst (SqL.of (sq _ _ R3)) (ints_dp rs), .lst (SqL.of upd_same) .nil, ints_shaped rs, by decide, _, rfl, ?_⟩
            rw [list_nil, List.isEmpty_map]
            have SHq := SH.trans sq
            have R4 := sq _ _ R3
            have hD5 := sq _ _ hD4
            generalize upd N q (.lst []) = N2 at SHq R4 hD5 ⊢
            have dA : Dp K N2 (.ref D) (.list (A.map ageD)) := .lst (SqL.of hD5) (ages_dp A)
            cases rs with
            | nil =>
              refine iteF ?_
              have all : ∀ x ∈ A, x = -1 := fun x hx => by
                by_cases e : x = -1
                · exact e
                · exact absurd ((memr x).mpr ⟨hx, e⟩) List.not_mem_nil
              obtain ⟨x0, hx0⟩ := List.exists_mem_of_ne_nil _ ane
              have in1 : -1 ∈ A := (all x0 hx0) ▸ hx0
              refine ⟨_, rfl, .none, A.map ageD, .non, dA, by decide, ages_shaped A, _, rfl, ?_⟩
              rw [ages_none, decide_eq_true in1]
              refine iteT ⟨by show 2 ≤ sizeLine; decide, fun t ht => ?_⟩
              exact ⟨t, _, rfl, SHq.trans (same_new ht), .inl ⟨all, rfl⟩, .tup (SqT.of upd_same) (.cons .non (.cons .non .nil))⟩
            | cons m tl =>
              obtain ⟨ha, hb⟩ := List.pairwise_cons.mp so
              have mm := (memr m).mp List.mem_cons_self
              obtain ⟨M0, hM0⟩ : ∃ M0, (m :: tl).getLast? = some M0 := ⟨_, List.getLast?_eq_some_getLast (by simp)⟩
              have MM := (memr M0).mp (List.mem_of_getLast? hM0)
              have mlo : ∀ x ∈ A, x ≠ -1 → m ≤ x := fun x hx hn => by
                rcases List.mem_cons.mp ((memr x).mpr ⟨hx, hn⟩) with e | e
                · rw [e]; exact Int.le_refl _
                · exact ha x e
              have Mhi : ∀ x ∈ A, x ≠ -1 → x ≤ M0 := fun x hx hn => last_most so hM0 x ((memr x).mpr ⟨hx, hn⟩)
              have hl2 : ((m :: tl).map V.int).getLast? = some (.int M0) := by rw [List.getLast?_map, hM0]; rfl
              refine iteT ⟨_, rfl, D3, _, 0, _, rfl, rfl, SqL.of R4, atI_nat (j := 0) rfl, ?_⟩
              refine ⟨_, rfl, .none, A.map ageD, .non, dA, by decide, ages_shaped A, _, rfl, ?_⟩
              rw [ages_none]
              by_cases in1 : -1 ∈ A
              · rw [decide_eq_true in1]
                refine iteT ⟨by show 2 ≤ sizeLine; decide, fun t ht => ?_⟩
                refine ⟨t, _, rfl, SHq.trans (same_new ht), .inr ⟨m, M0, mm.1, mm.2, mlo, MM.1, MM.2, Mhi, rfl⟩, ?_⟩
                rw [if_pos in1]
                exact .tup (SqT.of upd_same) (.cons (.int _) (.cons .non .nil))
              · rw [decide_eq_false in1]
                refine iteF ⟨_, rfl, 1, rfl, D3, _, -1, _, rfl, rfl, SqL.of R4, atI_last hl2, by show 2 ≤ sizeLine; decide, fun t ht => ?_⟩
                refine ⟨t, _, rfl, SHq.trans (same_new ht), .inr ⟨m, M0, mm.1, mm.2, mlo, MM.1, MM.2, Mhi, rfl⟩, ?_⟩
                rw [if_neg in1]
                exact .tup (SqT.of upd_same) (.cons (.int _) (.cons (.int _) .nil))
          · rintro σ' J' ⟨t, d2, rfl, SJ, ld, dt⟩
            have hF2 := SJ _ _ hF
            have pw2 := WasAt.same pw SJ
            have lm2 : ms.length ≤ 300 := lm
            refine ⟨_, rfl, F, rfl, ⟨_, SqL.of hF2⟩, fun D4 hD4 => ?_⟩
            refine lc_list (K := K) (a := F) (xs := us) (fun i N => Same J' N ∧ N D4 = some (.lst (((ms.take i).map fun p => p.1.headD 0).map V.int))) ⟨same_new hD4, upd_same⟩ (fun i N _ ⟨SN, _⟩ => SqL.of (SN _ _ hF2)) ?_ ?_
            · rintro m v N hv ⟨SN, hN⟩
              obtain ⟨p, hp, hwa⟩ := was_nth pw2 hv
              have hml : m < us.length := (List.getElem?_eq_some_iff.mp hv).1
              obtain ⟨b, c, rfl, hb, hc⟩ := hwa.same SN
              have pl := longM p (List.mem_of_getElem? hp)
              refine ⟨b, _, rfl, hb, rfl, _, _, rfl, _, _, rfl, rfl, ?_⟩
              refine ⟨rfl, ?_⟩
              unfold tYes
              refine iteT ⟨_, rfl, c, _, 0, _, rfl, rfl, hc.sq, at_head (fun e => by rw [e, List.length_nil] at pl; omega), ?_⟩
              refine ⟨_, hN, Nat.lt_of_lt_of_le (by rw [List.length_map, List.length_map, List.length_take]; omega : _ < 1000) (by decide), writeS SN hD4, ?_⟩
              rw [upd_same, List.take_add_one, hp, List.map_append, List.map_append]
              rfl
            · rintro N ⟨SN, hN⟩
              rw [lus, List.take_length] at hN
              have ln : (ms.map fun p => p.1.headD 0).length ≤ 300 := by rw [List.length_map]; omega
              generalize (ms.map fun p => p.1.headD 0) = ns at hN eh ln inz
              refine ⟨D4, ns, rfl, .inl (SqL.of hN), by omega, fun p1 c1 lc h1 => ⟨p1, _, c1, (List.range z.toNat).map (fun i : Nat => (i : Int)), rfl, upd_same, fun x hx => inz x (of_decide_eq_true hx), by rw [List.length_map, List.length_range]; omega, fun o p2 o1 o2 o3 h2 => ⟨p2, _, rfl, .inl ⟨SqL.of upd_same, fun t2 ht2 => ?_⟩⟩⟩⟩
              have s3 := ((same_new h1).trans (same_new h2)).trans (same_new (o := .tup (o.map V.int)) ht2)
              refine ⟨_, rfl, by show 2 ≤ sizeLine; decide, fun l3 hl3 => ?_⟩
              have s4 := same_new (o := .lst [.ref t2, .ref t]) hl3
              have s5 := (SN.trans s3).trans s4
              refine k l3 _ _ (.inl ⟨hn, o, d2, ⟨o1, fun u => by rw [o2 u, ← eh u]; exact decide_eq_true_iff⟩, ld.of es, rfl⟩) ((S.trans SJ).trans s5) ?_
              exact .lst (SqL.of upd_same) (.cons (.tup (SqT.of (s4 _ _ upd_same)) (ints_dp _)) (.cons (dpSame s5 _ _ dt) .nil))
    · refine ⟨_, rfl, rfl, _, rfl, iteT ?_⟩
      refine ⟨_, rfl, by show 1 ≤ sizeLine; decide, fun l1 h1 => ⟨_, rfl, by show 1 ≤ sizeLine; decide, fun l2 h2 => ⟨by show 2 ≤ sizeLine; decide, fun l3 h3 => ?_⟩⟩⟩
      have s1 := same_new (o := .lst [.int (n : Int)]) h1
      have s2 := same_new (o := .lst [.int (n : Int)]) h2
      have s3 := same_new (o := .lst [.ref l1, .ref l2]) h3
      refine k l3 _ _ (.inr ⟨n, hn, rfl⟩) (((S.trans s1).trans s2).trans s3) ?_
      exact .lst (SqL.of upd_same) (.cons (.lst (SqL.of ((s2.trans s3) _ _ upd_same)) (.cons (.int _) .nil)) (.cons (.lst (SqL.of (s3 _ _ upd_same)) (.cons (.int _) .nil)) .nil))
end

/-! ### what the law is told of a log -/
def TolD (z r g : Int) (qs : List (Int × Int)) (d : PyData) : Prop :=
  (noneAt z r g qs = none ∧ ∃ out : List Int, Sorted out ((pastsL z r g qs qs.length).map fun p => p.1.headD 0) ∧ d = .tuple (out.map PyData.int)) ∨ ∃ k : Nat, noneAt z r g qs = some k ∧ d = .list [.int (k : Int)]
theorem TolD.one {z r g : Int} {qs : List (Int × Int)} {d e : PyData} (h : TolD z r g qs d) (h2 : TolD z r g qs e) : d = e := by
  rcases h with ⟨n1, o1, s1, rfl⟩ | ⟨k1, n1, rfl⟩
  · rcases h2 with ⟨n2, o2, s2, rfl⟩ | ⟨k2, n2, rfl⟩
    · rw [Sorted.eq s1 s2 fun _ => Iff.rfl]
    · rw [n1] at n2; cases n2
  · rcases h2 with ⟨n2, o2, s2, rfl⟩ | ⟨k2, n2, rfl⟩
    · rw [n1] at n2; cases n2
    · rw [n1] at n2; cases n2; rfl
def sp_told48 (K : PySem.W.Frag) (tb tb2 tb3 : Addr) : Sp := fun vs H Q _ => ∃ (th lt : Addr) (z r g : Int) (fs : List V) (qs : List (Int × Int)), vs = [.ref th, .ref lt] ∧ SqT K H th [.int z, .int r, .int g] ∧ HouseOf 81 z r g ∧ qs.length ≤ 30 ∧ SqT K H lt fs ∧ DpAll K H fs (qs.map pairD) ∧ GxR.TabG H tb ∧ GxR.TabG H tb2 ∧ GxR.TabG H tb3 ∧
  ∀ (v : V) (d : PyData) (J : Hp), TolD z r g qs d → Grow H J → Dp K J v d → Q v J

/-! ### what a call tells, by the law -/
def TT59 (C : Addr) : (XK → Hp → VK → Prop) → Hp → VK → Prop := fun tl H Q =>
  tl (fun cls d J => cls = .ref C ∧ ∃ (n : Int) (d0 : Addr), d = some d0 ∧ J d0 = some (.xd [("number", .int n)]) ∧ ∀ l, J l = none → Q (.ref l) (upd J l (.lst [.int n]))) H Q
theorem called_gives {X : Cx} (T : Txt X.K X.mg) {g : Addr} {cdg : Value} {q : Str} : LamX.GivesTo X ["_law_call", "e"] "_law_called" (defScope s_called) g cdg (defBody s_called) "_law_call" q (TT59 T.C_NoCourse) := by
  intro f c' s H Q tl act hc h
  have PA : ∀ (W : WX) (pn : List (Addr × Obj)) (xe : Value → Shared → Prop) {p1 p2 p3 : Pos}, Takes ((cxOf C8.CX0 X.prog X.w X.K X.mg X.base ["_law_call", "e"] "_law_called" (defScope s_called) g cdg X.A X.stack s H C8.E0).nox.tr pn xe) W →
      PS ((cxOf C8.CX0 X.prog X.w X.K X.mg X.base ["_law_call", "e"] "_law_called" (defScope s_called) g cdg X.A X.stack s H C8.E0).nox.tr pn xe) (.Return (some (.Call (.Name "_law_call" p1) [] [] p2)) p3) (fun D σ H => ∃ Ech : XK, (∀ cls d σ' H', Ech cls d H' → σ'.length = 2 → W cls d σ' H') ∧ σ[0]? = some (some (.ref f)) ∧ H c' = some (LamX.CodeO c' q) ∧ tl Ech H D.rt) := fun W pn xe p1 p2 p3 tk => by
    refine ⟨fun pins s' σ H' D I h' => ?_⟩
    obtain ⟨Ech, hW, h1, h2, h3⟩ := h'
    exact (ps_ret (pos := p3) (act _ pn xe Ech p1 p2 (takes_len tk) hW)).run pins s' σ H' D I ⟨h1, h2, h3⟩
  refine ⟨_, (pss_one (ps_try_as (i := 1) (Wout := fun _ _ _ _ => False) rfl rfl sc_called.nd rfl rfl ⟨rfl, by decide, Or.inl T.E_NoCourse.gB⟩ takes0 (fun W pn xe tk _ => (pss_one (PA W pn xe tk))) (fun a oe cls d pn hz hf => (pss_one (ps_ret (pe_ifExp (pt_val (pe_callB (id := "isinstance") (call_isX T.E_NoCourse.ec hz hf) (by rfl) T.m_isinstance (by decide +kernel) (pa_cons (pv 1) (pa_cons (pe_glob (v := .ref T.C_NoCourse) (by rfl) T.E_NoCourse.gC rfl) pa_nil)))) (pe_lst (pa_cons (pe_xf T.E_NoCourse.xf T.E_NoCourse.nf hz hf (pv 1)) pa_nil)) (pe_lst (pa_cons pe_str pa_nil)))))))), ?_⟩
  refine ⟨fun cls d J => cls = .ref T.C_NoCourse ∧ ∃ (n : Int) (d0 : Addr), d = some d0 ∧ J d0 = some (.xd [("number", .int n)]) ∧ ∀ l, J l = none → Q (.ref l) (upd J l (.lst [.int n])), fun cls d σ' J he hl => ?_, rfl, hc, h⟩
  obtain ⟨rfl, n, d0, rfl, hd, k⟩ := he
  match σ', hl with
  | [y0, y1], _ =>
    refine ⟨true, T.E_NoCourse.tB, fun _ a ha => ?_, fun q => nomatch q⟩
    refine ⟨_, rfl, .ref T.C_NoCourse, .ref T.C_NoCourse, true, d0, _, rfl, rfl, rfl, hd, fun u r => r, kit_same, _, rfl, iteT ?_⟩
    refine ⟨_, rfl, rfl, rfl, d0, _, _, rfl, hd, rfl, by show 1 ≤ sizeLine; decide, fun l hl => k l hl⟩
theorem Deck.of_tabK {K : PySem.W.Frag} {H J : Hp} {p T : Addr} {n : Nat} {q : Str} (D : Deck K H p n) (h : TabK H T q) (k : Keep T H J) : Deck K J p n := by
  obtain ⟨ps, hT, _⟩ := id h
  obtain ⟨l, ns, c, r, hp, lp, hl, z⟩ := D
  exact ⟨l, ns, c, r, h.lst k hp, lp, (Same.seq off_in (Same.seq k.s (seq_offX hT hl))), z⟩
theorem TabK.deck {K : PySem.W.Frag} {H J : Hp} {p T : Addr} {n : Nat} {q : Str} (h : TabK H T q) (D : Deck K H p n) (k : Keep p H J) : TabK J T q := by
  obtain ⟨l, ns, c, r, hp, _⟩ := D
  exact h.keep hp k

theorem log_tiny {z : Int} (z4 : z ≤ 4) {ps : List (Int × Int)} (h : PairsIn z ps) (l : ps.length ≤ 40) : Tiny 143 600 20 (.tuple (ps.map pairD)) ∧ Tiny 143 600 20 (.list (ps.map pairD)) := by
  have w : wtAll (ps.map pairD) = 3 * ps.length := by
    clear h l
    induction ps with
    | nil => rfl
    | cons q r ih => simp only [List.map_cons, wtAll, wt, pairD, ih, List.length_cons]; omega
  have q := tiny_tup (e := 143) (W := 600) (m := 1) (ds := ps.map pairD) (fun d hd => by
    obtain ⟨q, hq, rfl⟩ := List.mem_map.mp hd
    have i := h q hq
    refine ⟨?_, by simp [pairD, PyData.depth, PyData.depthAll]⟩
    simp only [pairD, nice, niceAll, Bool.and_eq_true]
    exact ⟨by simpa only [nice] using nice_int (e := 143) (by decide) (by omega), by simpa only [nice] using nice_int (e := 143) (by decide) (by omega), trivial⟩) (by rw [w]; omega)
  exact ⟨q.1.mono (Nat.le_refl _) (Nat.le_refl _) (by decide), q.2.mono (Nat.le_refl _) (Nat.le_refl _) (by decide)⟩
/-- what the law is told of the last change -/
def TolL (z r g : Int) (qs : List (Int × Int)) (d : PyData) : Prop :=
  (noneAt z r g qs = none ∧ LastD ((pastsL z r g qs qs.length).map fun p => p.2.2) d) ∨ ∃ k : Nat, noneAt z r g qs = some k ∧ d = .list [.int (k : Int)]
theorem due_one {z r g : Int} {qs : List (Int × Int)} {d1 d2 e : PyData} (h1 : TolD z r g qs d1) (h2 : TolL z r g qs d2) (h : DueD z r g qs e) : e = .list [d1, d2] := by
  rcases h with ⟨n, out, l, so, la, rfl⟩ | ⟨k, n, rfl⟩
  · rcases h1 with ⟨_, o1, s1, rfl⟩ | ⟨k1, n1, _⟩
    · rcases h2 with ⟨_, l2⟩ | ⟨k2, n2, _⟩
      · rw [Sorted.eq s1 so fun _ => Iff.rfl, LastD.one (fun _ => Iff.rfl) l2 la]
      · rw [n] at n2; cases n2
    · rw [n] at n1; cases n1
  · rcases h1 with ⟨n1, _⟩ | ⟨k1, n1, rfl⟩
    · rw [n] at n1; cases n1
    · rcases h2 with ⟨n2, _⟩ | ⟨k2, n2, rfl⟩
      · rw [n] at n2; cases n2
      · rw [n] at n1 n2; cases n1; cases n2; rfl
theorem tiny_told59 {z r g : Int} {qs : List (Int × Int)} (hz : HouseOf 81 z r g) (l : qs.length ≤ 40) {d e : PyData} (h : TolD z r g qs d) (h2 : TolL z r g qs e) : Tiny 143 600 5 (.list [d, e]) := by
  obtain ⟨z2, z4, r1, r6, g0, g3, _⟩ := id hz
  have one : nice 143 d = true ∧ wt d ≤ 100 ∧ d.depth ≤ 2 := by
    rcases h with ⟨_, out, so, rfl⟩ | ⟨k, hk, rfl⟩
    · have inz : ∀ x ∈ out, 0 ≤ x ∧ x < z := fun x hx => by
        obtain ⟨p, hp, rfl⟩ := List.mem_map.mp ((so.2 x).mp hx)
        exact heads_z g0 r1 p hp
      have len : out.length ≤ 4 := by
        have nd : out.Nodup := so.1.imp fun {a b} h e => by rw [e] at h; exact absurd h (Int.lt_irrefl _)
        have zz := List.Nodup.length_le_of_subset nd (l₂ := (List.range z.toNat).map (fun i : Nat => (i : Int))) fun x hx => by
          have := inz x hx
          exact List.mem_map.mpr ⟨x.toNat, List.mem_range.mpr (by omega), by omega⟩
        rw [List.length_map, List.length_range] at zz
        omega
      have w0 : ∀ hs : List Int, wtAll (hs.map PyData.int) = hs.length := fun hs => by
        induction hs with
        | nil => rfl
        | cons x hs ih => simp only [List.map_cons, wtAll, wt, ih, List.length_cons]; omega
      refine ⟨?_, by simp only [wt, w0]; omega, by simp only [PyData.depth, ints_deep]; decide⟩
      simp only [nice]
      refine niceAll_iff.mpr fun e he => ?_
      obtain ⟨x, hx, rfl⟩ := List.mem_map.mp he
      exact nice_int (by decide) (by have := inz x hx; omega)
    · have kl : k < qs.length := (find_first.mp hk).1
      refine ⟨?_, by simp only [wt, wtAll]; omega, by simp only [PyData.depth, PyData.depthAll]; decide⟩
      have : nice 143 (.int (k : Int)) = true := nice_int (by decide) (by omega)
      simp only [nice, niceAll, Bool.and_eq_true] at this ⊢
      exact ⟨this, trivial⟩
  have two : nice 143 e = true ∧ wt e ≤ 100 ∧ e.depth ≤ 2 := by
    rcases h2 with ⟨_, ld⟩ | ⟨k, hk, rfl⟩
    · have small : ∀ x ∈ (pastsL z r g qs qs.length).map (fun p => p.2.2), x.natAbs ≤ 1000 := fun x hx => by
        obtain ⟨p, hp, rfl⟩ := List.mem_map.mp hx
        obtain ⟨c, hc, rfl⟩ := (past_lawC g0 r1).mp hp
        have lc := (lawC_in g0 hc).1
        have := ago_in c
        show (agoI c).natAbs ≤ 1000
        omega
      rcases ld with ⟨_, rfl⟩ | ⟨m, M, m1, _, _, M1, _, _, rfl⟩
      · exact ⟨by simp [nice, niceAll], by simp [wt, wtAll], by simp [PyData.depth, PyData.depthAll]⟩
      · have n1 : nice 143 (.int m) = true := nice_int (by decide) (small m m1)
        have n2 : nice 143 (.int M) = true := nice_int (by decide) (small M M1)
        split
        · refine ⟨?_, by simp [wt, wtAll], by simp [PyData.depth, PyData.depthAll]⟩
          simp only [nice, niceAll, Bool.and_eq_true] at n1 ⊢
          exact ⟨n1, trivial, trivial⟩
        · refine ⟨?_, by simp [wt, wtAll], by simp [PyData.depth, PyData.depthAll]⟩
          simp only [nice, niceAll, Bool.and_eq_true] at n1 n2 ⊢
          exact ⟨n1, n2, trivial⟩
    · have kl : k < qs.length := (find_first.mp hk).1
      refine ⟨?_, by simp only [wt, wtAll]; omega, by simp only [PyData.depth, PyData.depthAll]; decide⟩
      have : nice 143 (.int (k : Int)) = true := nice_int (by decide) (by omega)
      simp only [nice, niceAll, Bool.and_eq_true] at this ⊢
      exact ⟨this, trivial⟩
  obtain ⟨a, b, c⟩ := one
  obtain ⟨a2, b2, c2⟩ := two
  refine ⟨?_, by simp only [wt, wtAll]; omega, by simp only [PyData.depth, PyData.depthAll]; omega⟩
  simp only [nice, niceAll, Bool.and_eq_true]
  exact ⟨a, a2, trivial⟩
theorem TabK.put_lst {J : Hp} {T F : Addr} {q : Str} {xs : List V} {o : HO} (h : TabK J T q) (hF : J F = some (.lst xs)) : TabK (upd J F o) T q := by
  obtain ⟨ps, h1, h2, h3⟩ := h
  refine ⟨ps, by rw [upd_ne (ne_of h1 hF (tabX_ne fun _ z => by cases z))]; exact h1, h2, fun p v e => ?_⟩
  obtain ⟨d, e1, e2⟩ := h3 p v e
  exact ⟨d, e1, by rw [upd_ne (ne_of e2 hF (codeX_ne fun _ z => by cases z))]; exact e2⟩
theorem tolL_put {K : PySem.W.Frag} {z r g : Int} {qs : List (Int × Int)} {v : V} {d : PyData} {J : Hp} {F : Addr} {xs : List V} {o : HO} (h : TolL z r g qs d) (dv : Dp K J v d) (hF : J F = some (.lst xs)) (ne : ∀ x : Int, xs ≠ [V.int x]) : Dp K (upd J F o) v d := by
  have kd : ∀ a b : PyData, isKeyD a = true → isKeyD b = true → isKeyD (.tuple [a, b]) = true := fun a b h1 h2 => by simp only [isKeyD, isKeyDs, h1, h2, Bool.and_self]
  rcases h with ⟨_, ⟨_, rfl⟩ | ⟨m, M, _, _, _, _, _, _, rfl⟩⟩ | ⟨k, _, rfl⟩
  · exact keyPut hF _ _ (kd _ _ rfl rfl) dv
  · exact keyPut hF _ _ (kd _ _ rfl (by split <;> rfl)) dv
  · cases dv with
    | lst h1 h2 =>
      cases h2 with
      | cons a h2 =>
        cases h2
        cases a
        refine .lst ?_ (.cons (.int _) .nil)
        rcases h1 with (h | ⟨o2, h⟩) | h
        · exact Or.inl (Or.inl (by rw [upd_ne (ne_of h hF (fun z => by cases z; exact ne _ rfl))]; exact h))
        · exact Or.inl (Or.inr ⟨o2, by rw [upd_ne (ne_of h hF (fun z => by cases z))]; exact h⟩)
        · exact Or.inr h
theorem told_may {K : PySem.W.Frag} {C : Addr} {z r g : Int} {qs : List (Int × Int)} {M : Hp} {Qd : VK} (h : ∀ (v : V) (d : PyData) (J : Hp), TolD z r g qs d → Grow M J → Dp K J v d → Qd v J) :
    (noneAt z r g qs = none → ∀ (out : List Int) (t : Addr) (J : Hp), Sorted out ((pastsL z r g qs qs.length).map fun p => p.1.headD 0) → Grow M J → J t = some (.tup (out.map V.int)) → Qd (.ref t) J) ∧
      ∀ k, noneAt z r g qs = some k → Bad1 C (fun cls d J => cls = .ref C ∧ ∃ (n : Int) (d0 : Addr), d = some d0 ∧ J d0 = some (.xd [("number", .int n)]) ∧ ∀ l, J l = none → Qd (.ref l) (upd J l (.lst [.int n]))) M k :=
  ⟨fun hn out t1 J so G ht => h (.ref t1) _ J (.inl ⟨hn, out, so, rfl⟩) G (.tup (SqT.of ht) (ints_dp _)), fun kk hk J d G hd => ⟨rfl, (kk : Int), d, rfl, hd, fun l hl => h (.ref l) _ _ (.inr ⟨kk, hk, rfl⟩) (G.trans (Grow.new hl)) (.lst (SqL.of upd_same) (.cons (.int _) .nil))⟩⟩
theorem told_last {K : PySem.W.Frag} {C : Addr} {z r g : Int} {qs : List (Int × Int)} {M : Hp} {Qd : VK} (h : ∀ (v : V) (d : PyData) (J : Hp), TolL z r g qs d → Grow M J → Dp K J v d → Qd v J) :
    (noneAt z r g qs = none → ∀ (t : Addr) (d : PyData) (J : Hp), LastD ((pastsL z r g qs qs.length).map fun p => p.2.2) d → Grow M J → Dp K J (.ref t) d → Qd (.ref t) J) ∧
      ∀ k, noneAt z r g qs = some k → Bad1 C (fun cls d J => cls = .ref C ∧ ∃ (n : Int) (d0 : Addr), d = some d0 ∧ J d0 = some (.xd [("number", .int n)]) ∧ ∀ l, J l = none → Qd (.ref l) (upd J l (.lst [.int n]))) M k :=
  ⟨fun hn t1 d J so G ht => h (.ref t1) d J (.inl ⟨hn, so⟩) G ht, fun kk hk J d G hd => ⟨rfl, (kk : Int), d, rfl, hd, fun l hl => h (.ref l) _ _ (.inr ⟨kk, hk, rfl⟩) (G.trans (Grow.new hl)) (.lst (SqL.of upd_same) (.cons (.int _) .nil))⟩⟩
section
variable {P : Program} {w : World} {K : PySem.W.Frag} {mg : Str → Option Value} {base : Heap}
theorem law_does {f : Addr} (T : Txt K mg) (TB : ∀ p ∈ T.tabs, GxR.TabB base mg p.1 p.2) : LawDoesU P w K mg base s_law ["_law_script", "_law_deck_here", "_law_turn", "_law_house_here", "_law_log_here", "_law_held", "_law_found"] f T.tabs T.c_law T.p_law := by
  intro s H a ns h63 hTt hL0 hS
  have mB1 : (T.c_changes_of, T.p_changes_of) ∈ T.tabs := by simp [Txt.tabs]
  have mB2 : (T.c_heads_back, T.p_heads_back) ∈ T.tabs := by simp [Txt.tabs]
  have mB3 : (T.c_turns, T.p_turns) ∈ T.tabs := by simp [Txt.tabs]
  have mB4 : (T.c_law, T.p_law) ∈ T.tabs := by simp [Txt.tabs]
  have TB1 : GxR.TabB base mg T.c_changes_of T.p_changes_of := TB _ mB1
  have TB2 : GxR.TabB base mg T.c_heads_back T.p_heads_back := TB _ mB2
  have TB3 : GxR.TabB base mg T.c_turns T.p_turns := TB _ mB3
  have BL : LamX.TabB base mg T.c_law T.p_law := let b := TB _ mB4; ⟨b.code, b.bm, b.gP⟩
  have hT0 : GxR.TabG H T.p_changes_of := ⟨#[], hTt _ mB1 T.n_changes_of, by trivial⟩
  have hU0 : GxR.TabG H T.p_heads_back := ⟨#[], hTt _ mB2 T.n_heads_back, by trivial⟩
  have hV0 : GxR.TabG H T.p_turns := ⟨#[], hTt _ mB3 T.n_turns, by trivial⟩
  have hr := room_law (envOfC "law" (defScope s_law) s.heap.objs.size f (.ref T.c_law))
  have G_deck : FnOk P w K mg base CX0 1 T.a_deck T.d_deck ["_law_script"] (sp_deck K) := ok_deck T
  have G_house : FnOk P w K mg base CX0 3 T.a_house T.d_house ["_law_deck_here", "_law_room"] (sp_house K) := ok_house T
  have G_one : FnOk P w K mg base CX0 2 T.a_one T.d_one ["_law_deck_here", "_law_items"] (sp_one K) := ok_one T
  have G_log : FnOk P w K mg base CX0 4 T.a_log T.d_log ["_law_deck_here", "_law_house_here", "_law_many"] (sp_log K) := ok_log T
  have G_due : FnOk P w K mg base CX0 4 T.a_due T.d_due ["_law_house_here", "_law_log_here"] (sp_ldue59 K) := ok_ldue59 T
  have G_may_head : FnOk P w K mg base (L2.CX P w) 7 T.a_may_head T.d_may_head ["house", "log"] (sp_mayhead K T.p_changes_of T.p_heads_back T.p_turns T.C_NoCourse) := ok_mayhead T TB1 TB2 TB3
  have G_last_change : FnOk P w K mg base (L2.CX P w) 7 T.a_last_change T.d_last_change ["house", "log"] (sp_lastchg K T.p_changes_of T.p_heads_back T.p_turns T.C_NoCourse) := ok_lastchg T TB1 TB2 TB3
  obtain ⟨ocC, odC, kVC, docC, pmC, anC, cdC, ctC, oslC, eC, lkC, hcC⟩ := T.F_called.ex
  have biC := T.b_called
  rw [eC] at biC lkC
  obtain ⟨q, eQ⟩ : ∃ q : Str, (envOfC "law" (defScope s_law) s.heap.objs.size f (.ref T.c_law)).qual ++ "<lambda>" = q := ⟨_, rfl⟩
  refine ⟨_, (pss_cons (ps_set (i := 1) sc_law.nd rfl (Or.inl rfl) (pe_call G_deck (hr.mono (by omega)) (by rfl) T.g_deck T.F_deck.kp T.b_deck .nil pass0 (pa_cons (pv 0) pa_nil)))
      (pss_cons (ps_for PassesOwn.never rfl (pi_range1 (by rfl) T.m_range (pa_cons pe_int pa_nil)) (pg_name (i := 2) sc_law.nd rfl (Or.inl rfl))
        (pss_cons (ps_set (i := 3) sc_law.nd rfl (Or.inr rfl) (pe_call G_house (hr.mono (by omega)) (by rfl) T.g_house T.F_house.kp T.b_house .nil pass0 (pa_cons (pv 1) (pa_cons pe_int pa_nil))))
      (pss_cons (ps_set (i := 4) sc_law.nd rfl (Or.inr rfl) (pe_call G_log (hr.mono (by omega)) (by rfl) T.g_log T.F_log.kp T.b_log .nil pass0 (pa_cons (pv 1) (pa_cons (pv 3) (pa_cons (pe_call G_one (hr.mono (by omega)) (by rfl) T.g_one T.F_one.kp T.b_one .nil pass0 (pa_cons (pv 1) (pa_cons (pe_lst (pa_cons pe_int (pa_cons pe_int (pa_cons pe_int pa_nil)))) pa_nil))) pa_nil)))))
      (pss_cons (ps_set (i := 5) sc_law.nd rfl (Or.inl rfl) (pe_callB (id := "repr") (call_show rfl (by show 7 + 64 < cLine; decide)) (by rfl) T.m_repr (by decide +kernel) (pa_cons (pe_lst (pa_cons (pv 3) (pa_cons (pv 4) pa_nil))) pa_nil)))
      (pss_cons (ps_set (i := 6) sc_law.nd rfl (Or.inl rfl) (pe_lst (pa_cons (pe_lamcall3 (k := 8) (T := T.p_law) rfl T.g_called T.F_called.kp lkC hcC biC sc_called rfl (Or.inl rfl) (called_gives T) BL rfl eQ (hr.mono (by omega)) (LamX.lamS_by (sc := defScope s_law) (by decide +kernel)) rfl (fun _ _ _ _ _ => rfl) (fun A outer s H E f d rm => pe_call G_may_head (rm.mono (by omega)) (by rfl) T.g_may_head T.F_may_head.kp T.b_may_head .nil (passes_call (E := E) (takes_of (E := E) rfl rfl rfl rfl) (fun _ _ _ _ h => h)) (pa_cons (pe_var (i := 3) rfl (Or.inr (Or.inr rfl))) (pa_cons (pe_var (i := 4) rfl (Or.inr (Or.inr rfl))) pa_nil)))) pa_nil)))
      (pss_cons (ps_expr (pe_bm PySem.F.plainAttrs_list PySem.F.slot_list_append PySem.F.type_list_append mt_append (pv 6) (pa_cons (pe_lamcall3 (k := 8) (T := T.p_law) rfl T.g_called T.F_called.kp lkC hcC biC sc_called rfl (Or.inl rfl) (called_gives T) BL rfl eQ (hr.mono (by omega)) (LamX.lamS_by (sc := defScope s_law) (by decide +kernel)) rfl (fun _ _ _ _ _ => rfl) (fun A outer s H E f d rm => pe_call G_last_change (rm.mono (by omega)) (by rfl) T.g_last_change T.F_last_change.kp T.b_last_change .nil (passes_call (E := E) (takes_of (E := E) rfl rfl rfl rfl) (fun _ _ _ _ h => h)) (pa_cons (pe_var (i := 3) rfl (Or.inr (Or.inr rfl))) (pa_cons (pe_var (i := 4) rfl (Or.inr (Or.inr rfl))) pa_nil)))) pa_nil)))
      (pss_one (ps_if (PW.pt (pw_or (pt_cmpR op_ne (pe_callB (id := "repr") (call_show rfl (by show 7 + 64 < cLine; decide)) (by rfl) T.m_repr (by decide +kernel) (pa_cons (pv 6) pa_nil)) (pe_callB (id := "repr") (call_show rfl (by show 7 + 64 < cLine; decide)) (by rfl) T.m_repr (by decide +kernel) (pa_cons (pe_call G_due (hr.mono (by omega)) (by rfl) T.g_due T.F_due.kp T.b_due .nil pass0 (pa_cons (pv 3) (pa_cons (pv 4) pa_nil))) pa_nil)) (nomark _)) (pw_or1 (pt_cmpR op_ne (pe_callB (id := "repr") (call_show rfl (by show 7 + 64 < cLine; decide)) (by rfl) T.m_repr (by decide +kernel) (pa_cons (pe_lst (pa_cons (pv 3) (pa_cons (pv 4) pa_nil))) pa_nil)) (pv 5) (nomark _)))))
        (pss_one (ps_ret pe_bl))
        pss_nil))))))))
      (pss_one (ps_ret pe_bl)))), ?_⟩
  refine ⟨_, rfl, a, ns, rfl, hS, h63, fun p H1 D1 S1 hp => ?_⟩
  have hT1 : GxR.TabG H1 T.p_changes_of := (Tabs.of_same S1).tab hT0
  have hU1 : GxR.TabG H1 T.p_heads_back := (Tabs.of_same S1).tab hU0
  have hV1 : GxR.TabG H1 T.p_turns := (Tabs.of_same S1).tab hV0
  have hK1 : TabK H1 T.p_law q := (TabK.nil hL0).grow (Grow.of_same S1)
  refine ⟨5, rfl, by show -(2 ^ 62) ≤ (5 : Int); decide, by show (5 : Int) < 2 ^ 62; decide, for_range (lo := 0) (n := 5) (fun i σ H' => (∃ y2 y3 y4 y5 y6, σ = [some (.ref a), some (.ref p), y2, y3, y4, y5, y6]) ∧ GxR.TabG H' T.p_changes_of ∧ GxR.TabG H' T.p_heads_back ∧ GxR.TabG H' T.p_turns ∧ TabK H' T.p_law q ∧ ∃ n, n ≤ 1000 * i ∧ Deck K H' p n) ⟨⟨none, none, none, none, none, rfl⟩, hT1, hU1, hV1, hK1, 0, by omega, D1⟩ ?_ ?_⟩
  · rintro i σ H2 hi ⟨⟨y2, y3, y4, y5, y6, rfl⟩, hT2, hU2, hV2, hK2, n, hn, D2⟩
    refine ⟨_, rfl, p, 81, n, rfl, by decide, D2, by omega, fun z r g th H3 hH ht h0 D3 K3 => ?_⟩
    have hT3 := K3.t.tab hT2
    have hU3 := K3.t.tab hU2
    have hV3 := K3.t.tab hV2
    have hK3 := hK2.deck D2 K3
    have th0 : th ≠ p := D3.ne_tup ht
    obtain ⟨z2, z4, r1, r6, g0, g3, _⟩ := id hH
    obtain ⟨gn, rfl⟩ : ∃ g' : Nat, g = (g' : Int) := ⟨g.toNat, (Int.toNat_of_nonneg g0).symm⟩
    refine ⟨_, rfl, _, rfl, _, rfl, by show 3 ≤ sizeLine; decide, fun l0 hl0 => ?_⟩
    have D3' := D3.put hl0 (o := .lst [.int 6, .int 12, .int 30])
    have GL : Grow H3 (upd H3 l0 (.lst [.int 6, .int 12, .int 30])) := Grow.new hl0
    have lp0 : l0 ≠ p := D3.ne_new hl0
    refine ⟨p, l0, _, n + 4, rfl, SqL.of upd_same, lp0, by show 0 < 3; decide, by show 3 < 100000; decide, D3', by omega, fun iy y H4 hy D4 K4 => ?_⟩
    obtain ⟨many, rfl, m1, m30⟩ : ∃ m : Nat, y = .int (m : Int) ∧ 1 ≤ m ∧ m ≤ 30 := by
      match iy, hy with
      | 0, hy => cases hy; exact ⟨6, rfl, by decide, by decide⟩
      | 1, hy => cases hy; exact ⟨12, rfl, by decide, by decide⟩
      | 2, hy => cases hy; exact ⟨30, rfl, by decide, by decide⟩
      | k + 3, hy => cases hy
    have ht4 := K4.at th0 (GL.at ht)
    have hT4 := K4.t.tab (GL.t.tab hT3)
    have hU4 := K4.t.tab (GL.t.tab hU3)
    have hV4 := K4.t.tab (GL.t.tab hV3)
    have hK4 := (hK3.grow GL).deck D3' K4
    refine ⟨p, th, z, r, gn, many, n + 4 + 1, rfl, ht4, z2, z4, by omega, m1, by omega, D4, by omega, fun qs t fs H5 n5 lp inS st5 al5' hn5 D5 K5 => ?_⟩
    have ht5 := K5.at th0 ht4
    have hT5 := K5.t.tab hT4
    have hU5 := K5.t.tab hU4
    have hV5 := K5.t.tab hV4
    have hK5 := hK4.deck D4 K5
    have al5 := dpAllSame off_in _ _ al5'
    have sth : SqT K H5 th [.int z, .int r, .int (gn : Int)] := SqT.of ht5
    have q30 : qs.length ≤ 30 := by omega
    have few := few_pasts hH q30
    have te := (log_tiny z4 inS.all (by omega : qs.length ≤ 40)).1
    obtain ⟨s1', s2', s3'⟩ := (tiny_pair (z := z) (r := r) (g := (gn : Int)) (by omega) (by omega) (by omega) (te.mono (by decide) (by decide) (by decide))).shows (by decide) (by decide) (by decide)
    have dT : ∀ M, SqT K M th [.int z, .int r, .int (gn : Int)] → Dp K M (.ref th) (.tuple [.int z, .int r, .int (gn : Int)]) := fun M h => .tup h (.cons (.int _) (.cons (.int _) (.cons (.int _) .nil)))
    refine ⟨_, rfl, _, rfl, by show 2 ≤ sizeLine; decide, fun w1 v1' => ?_⟩
    have G1 : Grow H5 (upd H5 w1 (.lst [.ref th, .ref t])) := Grow.new v1'
    refine ⟨.ref w1, .list [.tuple [.int z, .int r, .int (gn : Int)], .tuple (qs.map pairD)], rfl, .lst (SqL.of upd_same) (.cons (dT _ (G1.tup sth)) (.cons (.tup (G1.tup st5) (growDpAll G1 _ _ al5)) .nil)), s1', s2', s3', ?_⟩
    generalize upd H5 w1 (.lst [.ref th, .ref t]) = M1 at G1 ⊢
    have D6 := D5.of_grow G1
    have sth6 := G1.tup sth
    have st6 := G1.tup st5
    have al6 := growDpAll G1 _ _ al5
    have hT6 := G1.t.tab hT5
    have hU6 := G1.t.tab hU5
    have hV6 := G1.t.tab hV5
    have hK6 := hK5.grow G1
    clear G1
    refine ⟨hK6, fun M2 k2 hK7 => ?_⟩
    have sth7 := hK6.tup k2 sth6
    have st7 := hK6.tup k2 st6
    have al7 := hK6.dps k2 al6
    have D7 := D6.of_tabK hK6 k2
    show TT59 _ _ M2 _
    refine (fun key : ∀ Qd : VK, (∀ (v : V) (d : PyData) (J : Hp), TolD z r (gn : Int) qs d → Grow M2 J → Dp K J v d → Qd v J) → TT59 _ _ M2 Qd => key _ fun v1 d1 J1 td1 G8 dv1 => ?_) ?_
    rotate_left
    · intro Qd hQ
      exact ⟨_, rfl, _, rfl, th, t, z, r, (gn : Int), fs, qs, rfl, sth7, hH, st7, al7, k2.t.tab hT6, k2.t.tab hU6, k2.t.tab hV6, few, heads_z g0 r1, told_may hQ⟩
    have sth8 := G8.tup sth7
    have st8 := G8.tup st7
    have al8 := growDpAll G8 _ _ al7
    have D8 := D7.of_grow G8
    have hT8 := G8.t.tab (k2.t.tab hT6)
    have hU8 := G8.t.tab (k2.t.tab hU6)
    have hV8 := G8.t.tab (k2.t.tab hV6)
    have hK8 := hK7.grow G8
    refine ⟨by show 1 ≤ sizeLine; decide, fun F1 hF1 => ?_⟩
    have G9 : Grow J1 (upd J1 F1 (.lst [v1])) := Grow.new hF1
    have hF9 : (upd J1 F1 (.lst [v1])) F1 = some (.lst [v1]) := upd_same
    have sth9 := G9.tup sth8
    have st9 := G9.tup st8
    have al9 := growDpAll G9 _ _ al8
    have D9 := D8.of_grow G9
    have hT9 := G9.t.tab hT8
    have hU9 := G9.t.tab hU8
    have hV9 := G9.t.tab hV8
    have hK9 := hK8.grow G9
    have dv9 := growDp G9 _ _ dv1
    show gName 6 (V.ref F1) _ (upd J1 F1 (.lst [v1])) _
    generalize upd J1 F1 (.lst [v1]) = J2 at G9 hF9 sth9 st9 al9 D9 hT9 hU9 hV9 hK9 dv9 ⊢
    refine ⟨_, rfl, .inl ⟨rfl, _, SqL.of hF9⟩, hK9, fun M3 k3 hK10 => ?_⟩
    have sth10 := hK9.tup k3 sth9
    have st10 := hK9.tup k3 st9
    have al10 := hK9.dps k3 al9
    have D10 := D9.of_tabK hK9 k3
    have hF10 := hK9.lst k3 hF9
    have dv10 := hK9.dp k3 dv9
    show TT59 _ _ M3 _
    refine (fun key : ∀ Qd : VK, (∀ (v : V) (d : PyData) (J : Hp), TolL z r (gn : Int) qs d → Grow M3 J → Dp K J v d → Qd v J) → TT59 _ _ M3 Qd => key _ fun v2 d2 J3 td2 G11 dv2 => ?_) ?_
    rotate_left
    · intro Qd hQ
      exact ⟨_, rfl, _, rfl, th, t, z, r, (gn : Int), fs, qs, rfl, sth10, hH, st10, al10, k3.t.tab hT9, k3.t.tab hU9, k3.t.tab hV9, few, told_last hQ⟩
    have sth11 := G11.tup sth10
    have st11 := G11.tup st10
    have al11 := growDpAll G11 _ _ al10
    have D11 := D10.of_grow G11
    have hF11 := G11.at hF10
    have dv11 := growDp G11 _ _ dv10
    have hT11 := G11.t.tab (k3.t.tab hT9)
    have hU11 := G11.t.tab (k3.t.tab hU9)
    have hV11 := G11.t.tab (k3.t.tab hV9)
    have hK11 := hK10.grow G11
    have kF : Keep T.p_law J1 J3 := ((Keep.of_grow G9).trans k3).trans (Keep.of_grow G11)
    have nFT : F1 ≠ T.p_law := fun z => by
      obtain ⟨ps, e, _⟩ := hK8
      rw [z, e] at hF1
      cases hF1
    refine ⟨F1, _, v2, rfl, rfl, hF11, Nat.lt_of_lt_of_le (by decide : 1 < 1000) (by decide), ?_⟩
    have kW : Keep T.p_law J1 (upd J3 F1 (.lst ([v1] ++ [v2]))) := kF.write hF1 nFT
    have hFW : (upd J3 F1 (.lst ([v1] ++ [v2]))) F1 = some (.lst [v1, v2]) := upd_same
    have sthW := hK8.tup kW sth8
    have stW := hK8.tup kW st8
    have alW := hK8.dps kW al8
    have DW := D8.of_tabK hK8 kW
    have dv1W := hK8.dp kW dv1
    have hTW := kW.t.tab hT8
    have hUW := kW.t.tab hU8
    have hVW := kW.t.tab hV8
    have hKW := hK11.put_lst (o := .lst ([v1] ++ [v2])) hF11
    have rv1 : ∀ x : Int, [v1] ≠ [V.int x] := fun x e => by
      injection e with e
      rw [e] at dv1
      rcases td1 with ⟨_, out, _, rfl⟩ | ⟨kk, _, rfl⟩ <;> cases dv1
    have dv2W := tolL_put (o := .lst ([v1] ++ [v2])) td2 dv2 hF11 rv1
    show (_ : Hp → Prop) (upd J3 F1 (.lst ([v1] ++ [v2])))
    generalize upd J3 F1 (.lst ([v1] ++ [v2])) = JW at hFW sthW stW alW DW dv1W hTW hUW hVW hKW dv2W ⊢
    clear kW kF nFT hK11 hT11 hU11 hV11 dv11 hF11 D11 al11 st11 sth11 G11 dv2
    obtain ⟨b1, b2, b3⟩ := (tiny_told59 hH (by omega : qs.length ≤ 40) td1 td2).shows (by decide) (by decide) (by decide)
    refine ⟨_, rfl, .ref F1, .list [d1, d2], rfl, .lst (SqL.of hFW) (.cons dv1W (.cons dv2W .nil)), b1, b2, b3, ?_⟩
    refine ⟨_, rfl, _, rfl, th, t, z, r, (gn : Int), fs, qs, rfl, sthW, hH, stW, alW, inS, q30, fun le de JX due SX dpe => ?_⟩
    obtain rfl := due_one td1 td2 due
    refine ⟨.ref le, _, rfl, dpe, b1, b2, b3, rfl, _, rfl, ?_⟩
    refine iteNS rfl ?_
    refine ⟨_, rfl, _, rfl, by show 2 ≤ sizeLine; decide, fun w2 v2' => ?_⟩
    have G9' : Grow JW (upd JX w2 (.lst [.ref th, .ref t])) := (Grow.of_same SX).trans (Grow.new v2')
    refine ⟨.ref w2, .list [.tuple [.int z, .int r, .int (gn : Int)], .tuple (qs.map pairD)], rfl, .lst (SqL.of upd_same) (.cons (dT _ (G9'.tup sthW)) (.cons (.tup (G9'.tup stW) (growDpAll G9' _ _ alW)) .nil)), s1', s2', s3', _, rfl, rfl, _, rfl, ?_⟩
    refine iteNS rfl ?_
    exact ⟨⟨_, _, _, _, _, rfl⟩, G9'.t.tab hTW, G9'.t.tab hUW, G9'.t.tab hVW, hKW.grow G9', n5, by omega, DW.of_grow G9'⟩
  · rintro σ H2 ⟨⟨y2, y3, y4, y5, y6, rfl⟩, _, _, _, ⟨ps, hps, _⟩, _⟩
    exact ⟨rfl, ps, hps⟩
end

theorem all_mk {l : PySem.W.OpenLaw} {w : World} {K : PySem.W.Frag} {h : Heap} {mg : Str → Option Value} {fa : Addr} (X : K.In h) (G : h.Ns mainGlobals mg) (hfa : mg "law" = some (.ref fa))
    {f0 : Addr} {od0 an0 : Option Addr} {sl0 : Array (Option Value)} {oc0 kV0 dc0 pm0 ct0 : Value} {cd0 : Value}
    (a0 : PySem.W.nsIn K mainGlobals "whole" = some (some (.ref f0))) (l0 : K.lookup f0 = some ⟨oc0, od0, .func (PySem.W.fnOf "whole" "whole" (defArgs s_whole) (defBody s_whole) (defScope s_whole) .none kV0 dc0 pm0 an0 cd0 ct0), sl0⟩) (c0 : PySem.W.codeIn K cd0 "whole" = true) (k0 : PySem.W.keepIn K (.ref f0) = true)
    {f1 : Addr} {od1 an1 : Option Addr} {sl1 : Array (Option Value)} {oc1 kV1 dc1 pm1 ct1 : Value} {cc1 pp1 : Addr} {oo1 : Obj}
    (a1 : PySem.W.nsIn K mainGlobals "changes_of" = some (some (.ref f1))) (l1 : K.lookup f1 = some ⟨oc1, od1, .func (PySem.W.fnOf "changes_of" "changes_of" (defArgs s_changes_of) (defBody s_changes_of) (defScope s_changes_of) .none kV1 dc1 pm1 an1 (.ref cc1) ct1), sl1⟩) (c1 : PySem.W.codeIn K (.ref cc1) "changes_of" = true) (k1 : PySem.W.keepIn K (.ref f1) = true)
    (u1 : K.lookup cc1 = some oo1) (v1 : TabField oo1 pp1) (y1 : K.lookup pp1 = none) (tk1 : CodeKnown mg h "changes_of")
    {f2 : Addr} {od2 an2 : Option Addr} {sl2 : Array (Option Value)} {oc2 kV2 dc2 pm2 ct2 : Value} {cd2 : Value}
    (a2 : PySem.W.nsIn K mainGlobals "is_course" = some (some (.ref f2))) (l2 : K.lookup f2 = some ⟨oc2, od2, .func (PySem.W.fnOf "is_course" "is_course" (defArgs s_is_course) (defBody s_is_course) (defScope s_is_course) .none kV2 dc2 pm2 an2 cd2 ct2), sl2⟩) (c2 : PySem.W.codeIn K cd2 "is_course" = true) (k2 : PySem.W.keepIn K (.ref f2) = true)
    {f3 : Addr} {od3 an3 : Option Addr} {sl3 : Array (Option Value)} {oc3 kV3 dc3 pm3 ct3 : Value} {cc3 pp3 : Addr} {oo3 : Obj}
    (a3 : PySem.W.nsIn K mainGlobals "heads_back" = some (some (.ref f3))) (l3 : K.lookup f3 = some ⟨oc3, od3, .func (PySem.W.fnOf "heads_back" "heads_back" (defArgs s_heads_back) (defBody s_heads_back) (defScope s_heads_back) .none kV3 dc3 pm3 an3 (.ref cc3) ct3), sl3⟩) (c3 : PySem.W.codeIn K (.ref cc3) "heads_back" = true) (k3 : PySem.W.keepIn K (.ref f3) = true)
    (u3 : K.lookup cc3 = some oo3) (v3 : TabField oo3 pp3) (y3 : K.lookup pp3 = none) (tk3 : CodeKnown mg h "heads_back")
    {f4 : Addr} {od4 an4 : Option Addr} {sl4 : Array (Option Value)} {oc4 kV4 dc4 pm4 ct4 : Value} {cd4 : Value}
    (a4 : PySem.W.nsIn K mainGlobals "named_by" = some (some (.ref f4))) (l4 : K.lookup f4 = some ⟨oc4, od4, .func (PySem.W.fnOf "named_by" "named_by" (defArgs s_named_by) (defBody s_named_by) (defScope s_named_by) .none kV4 dc4 pm4 an4 cd4 ct4), sl4⟩) (c4 : PySem.W.codeIn K cd4 "named_by" = true) (k4 : PySem.W.keepIn K (.ref f4) = true)
    {f5 : Addr} {od5 an5 : Option Addr} {sl5 : Array (Option Value)} {oc5 kV5 dc5 pm5 ct5 : Value} {cd5 : Value}
    (a5 : PySem.W.nsIn K mainGlobals "hold_of" = some (some (.ref f5))) (l5 : K.lookup f5 = some ⟨oc5, od5, .func (PySem.W.fnOf "hold_of" "hold_of" (defArgs s_hold_of) (defBody s_hold_of) (defScope s_hold_of) .none kV5 dc5 pm5 an5 cd5 ct5), sl5⟩) (c5 : PySem.W.codeIn K cd5 "hold_of" = true) (k5 : PySem.W.keepIn K (.ref f5) = true)
    {f6 : Addr} {od6 an6 : Option Addr} {sl6 : Array (Option Value)} {oc6 kV6 dc6 pm6 ct6 : Value} {cd6 : Value}
    (a6 : PySem.W.nsIn K mainGlobals "beginnings" = some (some (.ref f6))) (l6 : K.lookup f6 = some ⟨oc6, od6, .func (PySem.W.fnOf "beginnings" "beginnings" (defArgs s_beginnings) (defBody s_beginnings) (defScope s_beginnings) .none kV6 dc6 pm6 an6 cd6 ct6), sl6⟩) (c6 : PySem.W.codeIn K cd6 "beginnings" = true) (k6 : PySem.W.keepIn K (.ref f6) = true)
    {f7 : Addr} {od7 an7 : Option Addr} {sl7 : Array (Option Value)} {oc7 kV7 dc7 pm7 ct7 : Value} {cc7 pp7 : Addr} {oo7 : Obj}
    (a7 : PySem.W.nsIn K mainGlobals "turns" = some (some (.ref f7))) (l7 : K.lookup f7 = some ⟨oc7, od7, .func (PySem.W.fnOf "turns" "turns" (defArgs s_turns) (defBody s_turns) (defScope s_turns) .none kV7 dc7 pm7 an7 (.ref cc7) ct7), sl7⟩) (c7 : PySem.W.codeIn K (.ref cc7) "turns" = true) (k7 : PySem.W.keepIn K (.ref f7) = true)
    (u7 : K.lookup cc7 = some oo7) (v7 : TabField oo7 pp7) (y7 : K.lookup pp7 = none) (tk7 : CodeKnown mg h "turns")
    {f8 : Addr} {od8 an8 : Option Addr} {sl8 : Array (Option Value)} {oc8 kV8 dc8 pm8 ct8 : Value} {cd8 : Value}
    (a8 : PySem.W.nsIn K mainGlobals "ago_of" = some (some (.ref f8))) (l8 : K.lookup f8 = some ⟨oc8, od8, .func (PySem.W.fnOf "ago_of" "ago_of" (defArgs s_ago_of) (defBody s_ago_of) (defScope s_ago_of) .none kV8 dc8 pm8 an8 cd8 ct8), sl8⟩) (c8 : PySem.W.codeIn K cd8 "ago_of" = true) (k8 : PySem.W.keepIn K (.ref f8) = true)
    {f9 : Addr} {od9 an9 : Option Addr} {sl9 : Array (Option Value)} {oc9 kV9 dc9 pm9 ct9 : Value} {cd9 : Value}
    (a9 : PySem.W.nsIn K mainGlobals "pasts_at_first" = some (some (.ref f9))) (l9 : K.lookup f9 = some ⟨oc9, od9, .func (PySem.W.fnOf "pasts_at_first" "pasts_at_first" (defArgs s_pasts_at_first) (defBody s_pasts_at_first) (defScope s_pasts_at_first) .none kV9 dc9 pm9 an9 cd9 ct9), sl9⟩) (c9 : PySem.W.codeIn K cd9 "pasts_at_first" = true) (k9 : PySem.W.keepIn K (.ref f9) = true)
    {f10 : Addr} {od10 an10 : Option Addr} {sl10 : Array (Option Value)} {oc10 kV10 dc10 pm10 ct10 : Value} {cd10 : Value}
    (a10 : PySem.W.nsIn K mainGlobals "ago_later" = some (some (.ref f10))) (l10 : K.lookup f10 = some ⟨oc10, od10, .func (PySem.W.fnOf "ago_later" "ago_later" (defArgs s_ago_later) (defBody s_ago_later) (defScope s_ago_later) .none kV10 dc10 pm10 an10 cd10 ct10), sl10⟩) (c10 : PySem.W.codeIn K cd10 "ago_later" = true) (k10 : PySem.W.keepIn K (.ref f10) = true)
    {f11 : Addr} {od11 an11 : Option Addr} {sl11 : Array (Option Value)} {oc11 kV11 dc11 pm11 ct11 : Value} {cd11 : Value}
    (a11 : PySem.W.nsIn K mainGlobals "pasts_later" = some (some (.ref f11))) (l11 : K.lookup f11 = some ⟨oc11, od11, .func (PySem.W.fnOf "pasts_later" "pasts_later" (defArgs s_pasts_later) (defBody s_pasts_later) (defScope s_pasts_later) .none kV11 dc11 pm11 an11 cd11 ct11), sl11⟩) (c11 : PySem.W.codeIn K cd11 "pasts_later" = true) (k11 : PySem.W.keepIn K (.ref f11) = true)
    {f12 : Addr} {od12 an12 : Option Addr} {sl12 : Array (Option Value)} {oc12 kV12 dc12 pm12 ct12 : Value} {cd12 : Value}
    (a12 : PySem.W.nsIn K mainGlobals "may_be_told" = some (some (.ref f12))) (l12 : K.lookup f12 = some ⟨oc12, od12, .func (PySem.W.fnOf "may_be_told" "may_be_told" (defArgs s_may_be_told) (defBody s_may_be_told) (defScope s_may_be_told) .none kV12 dc12 pm12 an12 cd12 ct12), sl12⟩) (c12 : PySem.W.codeIn K cd12 "may_be_told" = true) (k12 : PySem.W.keepIn K (.ref f12) = true)
    {f13 : Addr} {od13 an13 : Option Addr} {sl13 : Array (Option Value)} {oc13 kV13 dc13 pm13 ct13 : Value} {cd13 : Value}
    (a13 : PySem.W.nsIn K mainGlobals "pasts_behind" = some (some (.ref f13))) (l13 : K.lookup f13 = some ⟨oc13, od13, .func (PySem.W.fnOf "pasts_behind" "pasts_behind" (defArgs s_pasts_behind) (defBody s_pasts_behind) (defScope s_pasts_behind) .none kV13 dc13 pm13 an13 cd13 ct13), sl13⟩) (c13 : PySem.W.codeIn K cd13 "pasts_behind" = true) (k13 : PySem.W.keepIn K (.ref f13) = true)
    {f14 : Addr} {od14 an14 : Option Addr} {sl14 : Array (Option Value)} {oc14 kV14 dc14 pm14 ct14 : Value} {cd14 : Value}
    (a14 : PySem.W.nsIn K mainGlobals "may_head" = some (some (.ref f14))) (l14 : K.lookup f14 = some ⟨oc14, od14, .func (PySem.W.fnOf "may_head" "may_head" (defArgs s_may_head) (defBody s_may_head) (defScope s_may_head) .none kV14 dc14 pm14 an14 cd14 ct14), sl14⟩) (c14 : PySem.W.codeIn K cd14 "may_head" = true) (k14 : PySem.W.keepIn K (.ref f14) = true)
    {f15 : Addr} {od15 an15 : Option Addr} {sl15 : Array (Option Value)} {oc15 kV15 dc15 pm15 ct15 : Value} {cd15 : Value}
    (a15 : PySem.W.nsIn K mainGlobals "last_change" = some (some (.ref f15))) (l15 : K.lookup f15 = some ⟨oc15, od15, .func (PySem.W.fnOf "last_change" "last_change" (defArgs s_last_change) (defBody s_last_change) (defScope s_last_change) .none kV15 dc15 pm15 an15 cd15 ct15), sl15⟩) (c15 : PySem.W.codeIn K cd15 "last_change" = true) (k15 : PySem.W.keepIn K (.ref f15) = true)
    {f16 : Addr} {od16 an16 : Option Addr} {sl16 : Array (Option Value)} {oc16 kV16 dc16 pm16 ct16 : Value} {cd16 : Value}
    (a16 : PySem.W.nsIn K mainGlobals "_law_deck" = some (some (.ref f16))) (l16 : K.lookup f16 = some ⟨oc16, od16, .func (PySem.W.fnOf "_law_deck" "_law_deck" (defArgs s_deck) (defBody s_deck) (defScope s_deck) .none kV16 dc16 pm16 an16 cd16 ct16), sl16⟩) (c16 : PySem.W.codeIn K cd16 "_law_deck" = true) (k16 : PySem.W.keepIn K (.ref f16) = true)
    {f17 : Addr} {od17 an17 : Option Addr} {sl17 : Array (Option Value)} {oc17 kV17 dc17 pm17 ct17 : Value} {cd17 : Value}
    (a17 : PySem.W.nsIn K mainGlobals "_law_draw" = some (some (.ref f17))) (l17 : K.lookup f17 = some ⟨oc17, od17, .func (PySem.W.fnOf "_law_draw" "_law_draw" (defArgs s_draw) (defBody s_draw) (defScope s_draw) .none kV17 dc17 pm17 an17 cd17 ct17), sl17⟩) (c17 : PySem.W.codeIn K cd17 "_law_draw" = true) (k17 : PySem.W.keepIn K (.ref f17) = true)
    {f18 : Addr} {od18 an18 : Option Addr} {sl18 : Array (Option Value)} {oc18 kV18 dc18 pm18 ct18 : Value} {cd18 : Value}
    (a18 : PySem.W.nsIn K mainGlobals "_law_one" = some (some (.ref f18))) (l18 : K.lookup f18 = some ⟨oc18, od18, .func (PySem.W.fnOf "_law_one" "_law_one" (defArgs s_one) (defBody s_one) (defScope s_one) .none kV18 dc18 pm18 an18 cd18 ct18), sl18⟩) (c18 : PySem.W.codeIn K cd18 "_law_one" = true) (k18 : PySem.W.keepIn K (.ref f18) = true)
    {f19 : Addr} {od19 an19 : Option Addr} {sl19 : Array (Option Value)} {oc19 kV19 dc19 pm19 ct19 : Value} {cd19 : Value}
    (a19 : PySem.W.nsIn K mainGlobals "_law_power" = some (some (.ref f19))) (l19 : K.lookup f19 = some ⟨oc19, od19, .func (PySem.W.fnOf "_law_power" "_law_power" (defArgs s_power) (defBody s_power) (defScope s_power) .none kV19 dc19 pm19 an19 cd19 ct19), sl19⟩) (c19 : PySem.W.codeIn K cd19 "_law_power" = true) (k19 : PySem.W.keepIn K (.ref f19) = true)
    {f20 : Addr} {od20 an20 : Option Addr} {sl20 : Array (Option Value)} {oc20 kV20 dc20 pm20 ct20 : Value} {cd20 : Value}
    (a20 : PySem.W.nsIn K mainGlobals "_law_house" = some (some (.ref f20))) (l20 : K.lookup f20 = some ⟨oc20, od20, .func (PySem.W.fnOf "_law_house" "_law_house" (defArgs s_house) (defBody s_house) (defScope s_house) .none kV20 dc20 pm20 an20 cd20 ct20), sl20⟩) (c20 : PySem.W.codeIn K cd20 "_law_house" = true) (k20 : PySem.W.keepIn K (.ref f20) = true)
    {f21 : Addr} {od21 an21 : Option Addr} {sl21 : Array (Option Value)} {oc21 kV21 dc21 pm21 ct21 : Value} {cd21 : Value}
    (a21 : PySem.W.nsIn K mainGlobals "_law_rest_kept" = some (some (.ref f21))) (l21 : K.lookup f21 = some ⟨oc21, od21, .func (PySem.W.fnOf "_law_rest_kept" "_law_rest_kept" (defArgs s_rest_kept) (defBody s_rest_kept) (defScope s_rest_kept) .none kV21 dc21 pm21 an21 cd21 ct21), sl21⟩) (c21 : PySem.W.codeIn K cd21 "_law_rest_kept" = true) (k21 : PySem.W.keepIn K (.ref f21) = true)
    {f22 : Addr} {od22 an22 : Option Addr} {sl22 : Array (Option Value)} {oc22 kV22 dc22 pm22 ct22 : Value} {cd22 : Value}
    (a22 : PySem.W.nsIn K mainGlobals "_law_course" = some (some (.ref f22))) (l22 : K.lookup f22 = some ⟨oc22, od22, .func (PySem.W.fnOf "_law_course" "_law_course" (defArgs s_course) (defBody s_course) (defScope s_course) .none kV22 dc22 pm22 an22 cd22 ct22), sl22⟩) (c22 : PySem.W.codeIn K cd22 "_law_course" = true) (k22 : PySem.W.keepIn K (.ref f22) = true)
    {f23 : Addr} {od23 an23 : Option Addr} {sl23 : Array (Option Value)} {oc23 kV23 dc23 pm23 ct23 : Value} {cd23 : Value}
    (a23 : PySem.W.nsIn K mainGlobals "_law_names" = some (some (.ref f23))) (l23 : K.lookup f23 = some ⟨oc23, od23, .func (PySem.W.fnOf "_law_names" "_law_names" (defArgs s_names) (defBody s_names) (defScope s_names) .none kV23 dc23 pm23 an23 cd23 ct23), sl23⟩) (c23 : PySem.W.codeIn K cd23 "_law_names" = true) (k23 : PySem.W.keepIn K (.ref f23) = true)
    {f24 : Addr} {od24 an24 : Option Addr} {sl24 : Array (Option Value)} {oc24 kV24 dc24 pm24 ct24 : Value} {cd24 : Value}
    (a24 : PySem.W.nsIn K mainGlobals "_law_said" = some (some (.ref f24))) (l24 : K.lookup f24 = some ⟨oc24, od24, .func (PySem.W.fnOf "_law_said" "_law_said" (defArgs s_said) (defBody s_said) (defScope s_said) .none kV24 dc24 pm24 an24 cd24 ct24), sl24⟩) (c24 : PySem.W.codeIn K cd24 "_law_said" = true) (k24 : PySem.W.keepIn K (.ref f24) = true)
    {f25 : Addr} {od25 an25 : Option Addr} {sl25 : Array (Option Value)} {oc25 kV25 dc25 pm25 ct25 : Value} {cd25 : Value}
    (a25 : PySem.W.nsIn K mainGlobals "_law_log" = some (some (.ref f25))) (l25 : K.lookup f25 = some ⟨oc25, od25, .func (PySem.W.fnOf "_law_log" "_law_log" (defArgs s_log) (defBody s_log) (defScope s_log) .none kV25 dc25 pm25 an25 cd25 ct25), sl25⟩) (c25 : PySem.W.codeIn K cd25 "_law_log" = true) (k25 : PySem.W.keepIn K (.ref f25) = true)
    {f26 : Addr} {od26 an26 : Option Addr} {sl26 : Array (Option Value)} {oc26 kV26 dc26 pm26 ct26 : Value} {cd26 : Value}
    (a26 : PySem.W.nsIn K mainGlobals "_law_begun" = some (some (.ref f26))) (l26 : K.lookup f26 = some ⟨oc26, od26, .func (PySem.W.fnOf "_law_begun" "_law_begun" (defArgs s_begun) (defBody s_begun) (defScope s_begun) .none kV26 dc26 pm26 an26 cd26 ct26), sl26⟩) (c26 : PySem.W.codeIn K cd26 "_law_begun" = true) (k26 : PySem.W.keepIn K (.ref f26) = true)
    {f27 : Addr} {od27 an27 : Option Addr} {sl27 : Array (Option Value)} {oc27 kV27 dc27 pm27 ct27 : Value} {cd27 : Value}
    (a27 : PySem.W.nsIn K mainGlobals "_law_next_worlds" = some (some (.ref f27))) (l27 : K.lookup f27 = some ⟨oc27, od27, .func (PySem.W.fnOf "_law_next_worlds" "_law_next_worlds" (defArgs s_next_worlds) (defBody s_next_worlds) (defScope s_next_worlds) .none kV27 dc27 pm27 an27 cd27 ct27), sl27⟩) (c27 : PySem.W.codeIn K cd27 "_law_next_worlds" = true) (k27 : PySem.W.keepIn K (.ref f27) = true)
    {f28 : Addr} {od28 an28 : Option Addr} {sl28 : Array (Option Value)} {oc28 kV28 dc28 pm28 ct28 : Value} {cd28 : Value}
    (a28 : PySem.W.nsIn K mainGlobals "_law_worlds" = some (some (.ref f28))) (l28 : K.lookup f28 = some ⟨oc28, od28, .func (PySem.W.fnOf "_law_worlds" "_law_worlds" (defArgs s_worlds) (defBody s_worlds) (defScope s_worlds) .none kV28 dc28 pm28 an28 cd28 ct28), sl28⟩) (c28 : PySem.W.codeIn K cd28 "_law_worlds" = true) (k28 : PySem.W.keepIn K (.ref f28) = true)
    {f29 : Addr} {od29 an29 : Option Addr} {sl29 : Array (Option Value)} {oc29 kV29 dc29 pm29 ct29 : Value} {cd29 : Value}
    (a29 : PySem.W.nsIn K mainGlobals "_law_due" = some (some (.ref f29))) (l29 : K.lookup f29 = some ⟨oc29, od29, .func (PySem.W.fnOf "_law_due" "_law_due" (defArgs s_due) (defBody s_due) (defScope s_due) .none kV29 dc29 pm29 an29 cd29 ct29), sl29⟩) (c29 : PySem.W.codeIn K cd29 "_law_due" = true) (k29 : PySem.W.keepIn K (.ref f29) = true)
    {f30 : Addr} {od30 an30 : Option Addr} {sl30 : Array (Option Value)} {oc30 kV30 dc30 pm30 ct30 : Value} {cd30 : Value}
    (a30 : PySem.W.nsIn K mainGlobals "_law_called" = some (some (.ref f30))) (l30 : K.lookup f30 = some ⟨oc30, od30, .func (PySem.W.fnOf "_law_called" "_law_called" (defArgs s_called) (defBody s_called) (defScope s_called) .none kV30 dc30 pm30 an30 cd30 ct30), sl30⟩) (c30 : PySem.W.codeIn K cd30 "_law_called" = true) (k30 : PySem.W.keepIn K (.ref f30) = true)
    {f31 : Addr} {od31 an31 : Option Addr} {sl31 : Array (Option Value)} {oc31 kV31 dc31 pm31 ct31 : Value} {cc31 pp31 : Addr} {oo31 : Obj}
    (a31 : PySem.W.nsIn K mainGlobals "law" = some (some (.ref f31))) (l31 : K.lookup f31 = some ⟨oc31, od31, .func (PySem.W.fnOf "law" "law" (defArgs s_law) (defBody s_law) (defScope s_law) .none kV31 dc31 pm31 an31 (.ref cc31) ct31), sl31⟩) (c31 : PySem.W.codeIn K (.ref cc31) "law" = true) (k31 : PySem.W.keepIn K (.ref f31) = true)
    (u31 : K.lookup cc31 = some oo31) (v31 : TabField oo31 pp31) (y31 : K.lookup pp31 = none) (tk31 : CodeKnown mg h "law")
    {p_NONE_ASKED : Addr} {o_NONE_ASKED : Obj} (v_NONE_ASKED : PySem.W.nsIn K mainGlobals "NONE_ASKED" = some (some (.ref p_NONE_ASKED))) (w_NONE_ASKED : K.lookup p_NONE_ASKED = some o_NONE_ASKED) (x_NONE_ASKED : TupOf o_NONE_ASKED [.int (-1), .int (-1)])
    {t_NOT_CHANGED : Tok} (v_NOT_CHANGED : PySem.W.nsIn K mainGlobals "NOT_CHANGED" = some (some (.int (-1) t_NOT_CHANGED)))
    (z_abs : PySem.W.nsIn K mainGlobals "abs" = some none)
    (z_all : PySem.W.nsIn K mainGlobals "all" = some none)
    (z_bool : PySem.W.nsIn K mainGlobals "bool" = some none)
    (z_e : PySem.W.nsIn K mainGlobals "e" = some none)
    (z_enumerate : PySem.W.nsIn K mainGlobals "enumerate" = some none)
    (z_int : PySem.W.nsIn K mainGlobals "int" = some none)
    (z_isinstance : PySem.W.nsIn K mainGlobals "isinstance" = some none)
    (z_len : PySem.W.nsIn K mainGlobals "len" = some none)
    (z_list : PySem.W.nsIn K mainGlobals "list" = some none)
    (z_max : PySem.W.nsIn K mainGlobals "max" = some none)
    (z_min : PySem.W.nsIn K mainGlobals "min" = some none)
    (z_range : PySem.W.nsIn K mainGlobals "range" = some none)
    (z_repr : PySem.W.nsIn K mainGlobals "repr" = some none)
    (z_set : PySem.W.nsIn K mainGlobals "set" = some none)
    (z_sorted : PySem.W.nsIn K mainGlobals "sorted" = some none)
    (z_tuple : PySem.W.nsIn K mainGlobals "tuple" = some none)
    (z_zip : PySem.W.nsIn K mainGlobals "zip" = some none)
    (ne1 : pp1 ≠ pp31)
    (ne3 : pp3 ≠ pp31)
    (ne7 : pp7 ≠ pp31)
    {CNoCourse BNoCourse INoCourse : Addr} {nmNoCourse qNoCourse : Str} {NNoCourse : Addr} {bsNoCourse bmNoCourse : List Value} {snNoCourse : List Str} {subNoCourse : List Value} {abNoCourse : Bool} {colNoCourse : Option Bool} {ddNoCourse : Option Addr} {m0NoCourse m1NoCourse m2NoCourse m3NoCourse m5NoCourse : Option Value}
    {odINoCourse anINoCourse : Option Addr} {slINoCourse : Array (Option Value)} {ocINoCourse dcINoCourse pmINoCourse cdINoCourse ctINoCourse kVINoCourse : Value}
    (eC_NoCourse : PySem.W.nsIn K mainGlobals "NoCourse" = some (some (.ref CNoCourse)))
    (eB_NoCourse : PySem.W.nsIn K mainGlobals "AskError" = some (some (.ref BNoCourse)))
    (eL_NoCourse : K.lookup CNoCourse = some (excClassObj nmNoCourse qNoCourse CNoCourse NNoCourse bsNoCourse bmNoCourse true snNoCourse subNoCourse abNoCourse colNoCourse ddNoCourse m0NoCourse m1NoCourse m2NoCourse m3NoCourse m5NoCourse "ValueError.__new__"))
    (eR_NoCourse : PySem.HandSPX.refsVE bmNoCourse = true)
    (eS_NoCourse : PySem.W.findIn K (.ref CNoCourse) "__setattr__" = some (some (.builtin "object.__setattr__")))
    (eG_NoCourse : PySem.W.findIn K (.ref CNoCourse) "__getattribute__" = some (some (.builtin "BaseException.__getattribute__")))
    (eH_NoCourse : PySem.W.findIn K (.ref CNoCourse) "__getattr__" = some none)
    (eF_NoCourse : PySem.W.findIn K (.ref CNoCourse) "number" = some none)
    (eW_NoCourse : PySem.W.findIn K (.ref CNoCourse) "number" = some none)
    (eI_NoCourse : PySem.W.findIn K (.ref CNoCourse) "__init__" = some (some (.ref INoCourse)))
    (eT_NoCourse : PySem.W.typeIn K (.ref INoCourse) = some (.type "function"))
    (eX_NoCourse : K.lookup INoCourse = some ⟨ocINoCourse, odINoCourse, .func (PySem.W.fnOf "__init__" "NoCourse.__init__" (defArgs s_NoCourse_init) (defBody s_NoCourse_init) (defScope s_NoCourse_init) .none kVINoCourse dcINoCourse pmINoCourse anINoCourse cdINoCourse ctINoCourse), slINoCourse⟩)
    (eY_NoCourse : PySem.W.codeIn K cdINoCourse "NoCourse.__init__" = true)
    (eZ_NoCourse : PySem.W.keepIn K (.ref INoCourse) = true)
    (eK_NoCourse : PySem.W.keepIn K (.ref CNoCourse) = true)
    (eE_NoCourse : PySem.W.subIn K (.ref CNoCourse) (.type "BaseException") = some true)
    (eM_NoCourse : PySem.W.typeIn K (.ref CNoCourse) = some (.type "type"))
    (eD_NoCourse : PySem.W.hasDictIn K CNoCourse = true)
    (eJ_NoCourse : PySem.W.isClsIn K CNoCourse = true)
    (eP_NoCourse : PySem.W.subIn K (.ref CNoCourse) (.ref CNoCourse) = some true)
    (eN_NoCourse : PySem.W.findIn K (.ref CNoCourse) "__class__" = some (some (.builtin "object.__class__")))
    (eO_NoCourse : PySem.W.specialIn K (.builtin "object.__class__") "__get__" = some (some (.builtin "getset_descriptor.__get__")))
    (eQ_NoCourse : PySem.W.takesIn K (.builtin "object.__class__") = some true)
    (eU_NoCourse : PySem.W.mroIn K CNoCourse (.type "object") = some true)
    (eV_NoCourse : PySem.W.isClsIn K BNoCourse = true)
    (fA_NoCourse : PySem.W.typeIn K (.ref BNoCourse) = some (.type "type"))
    (fB_NoCourse : PySem.W.subIn K (.ref CNoCourse) (.ref BNoCourse) = some true)
    (fD_NoCourse : PySem.W.subIn K (.ref BNoCourse) (.type "BaseException") = some true)
    (fC_NoCourse : PySem.W.subIn K (.ref CNoCourse) (.type "ValueError") = some true)
    : ∃ (fd : FuncData) (cs : List (Addr × Addr)) (cl pl : Addr), Fun K "law" "law" s_law fa fd ∧ fd.code = .ref cl ∧ (cl, pl) ∈ cs ∧ (∀ (s : Shared) (u : Value), BindsTo s fd ⟨[u], []⟩ [("_law_script", u)]) ∧
      (∀ p ∈ cs, h.get? p.2 = some { cls := .none, data := .fields #[] } ∧ K.lookup p.2 = none ∧ PySem.W.CodeHd h p.1 p.2 ∧ h.IsCode p.1 p.2 #[] ∧ h.TableAt p.1 p.2 #[]) ∧
        ∀ base : Heap, K.In base → (∀ p ∈ cs, GxR.TabB base mg p.1 p.2) → LawDoesU l.prog w K mg base s_law ["_law_script", "_law_deck_here", "_law_turn", "_law_house_here", "_law_log_here", "_law_held", "_law_found"] fa cs cl pl := by
  have e := hfa.symm.trans (PySem.W.mg_of X G a31)
  cases e
  have F0 := fun_mk (st := s_whole) l0 c0 k0
  have F1 := fun_mk (st := s_changes_of) l1 c1 k1
  have F2 := fun_mk (st := s_is_course) l2 c2 k2
  have F3 := fun_mk (st := s_heads_back) l3 c3 k3
  have F4 := fun_mk (st := s_named_by) l4 c4 k4
  have F5 := fun_mk (st := s_hold_of) l5 c5 k5
  have F6 := fun_mk (st := s_beginnings) l6 c6 k6
  have F7 := fun_mk (st := s_turns) l7 c7 k7
  have F8 := fun_mk (st := s_ago_of) l8 c8 k8
  have F9 := fun_mk (st := s_pasts_at_first) l9 c9 k9
  have F10 := fun_mk (st := s_ago_later) l10 c10 k10
  have F11 := fun_mk (st := s_pasts_later) l11 c11 k11
  have F12 := fun_mk (st := s_may_be_told) l12 c12 k12
  have F13 := fun_mk (st := s_pasts_behind) l13 c13 k13
  have F14 := fun_mk (st := s_may_head) l14 c14 k14
  have F15 := fun_mk (st := s_last_change) l15 c15 k15
  have F16 := fun_mk (st := s_deck) l16 c16 k16
  have F17 := fun_mk (st := s_draw) l17 c17 k17
  have F18 := fun_mk (st := s_one) l18 c18 k18
  have F19 := fun_mk (st := s_power) l19 c19 k19
  have F20 := fun_mk (st := s_house) l20 c20 k20
  have F21 := fun_mk (st := s_rest_kept) l21 c21 k21
  have F22 := fun_mk (st := s_course) l22 c22 k22
  have F23 := fun_mk (st := s_names) l23 c23 k23
  have F24 := fun_mk (st := s_said) l24 c24 k24
  have F25 := fun_mk (st := s_log) l25 c25 k25
  have F26 := fun_mk (st := s_begun) l26 c26 k26
  have F27 := fun_mk (st := s_next_worlds) l27 c27 k27
  have F28 := fun_mk (st := s_worlds) l28 c28 k28
  have F29 := fun_mk (st := s_due) l29 c29 k29
  have F30 := fun_mk (st := s_called) l30 c30 k30
  have FINoCourse := fun_mk (st := s_NoCourse_init) eX_NoCourse eY_NoCourse eZ_NoCourse
  let T : Txt K mg := ⟨cc31,
    pp31,
    _,
    _,
    F0,
    PySem.W.mg_of X G a0,
    F0.binds (ps := ["value", "low", "high"]) fun _ _ _ _ _ _ us hl => match us, hl with | [_, _, _], _ => rfl,
    _,
    _,
    F1,
    PySem.W.mg_of X G a1,
    F1.binds (ps := ["course"]) fun _ _ _ _ _ _ us hl => match us, hl with | [_], _ => rfl,
    cc1,
    pp1,
    rfl,
    ne1,
    _,
    _,
    F2,
    PySem.W.mg_of X G a2,
    F2.binds (ps := ["house", "value"]) fun _ _ _ _ _ _ us hl => match us, hl with | [_, _], _ => rfl,
    _,
    _,
    F3,
    PySem.W.mg_of X G a3,
    F3.binds (ps := ["house", "course", "moment"]) fun _ _ _ _ _ _ us hl => match us, hl with | [_, _, _], _ => rfl,
    cc3,
    pp3,
    rfl,
    ne3,
    _,
    _,
    F4,
    PySem.W.mg_of X G a4,
    F4.binds (ps := ["heads", "server"]) fun _ _ _ _ _ _ us hl => match us, hl with | [_, _], _ => rfl,
    _,
    _,
    F5,
    PySem.W.mg_of X G a5,
    F5.binds (ps := ["house", "course"]) fun _ _ _ _ _ _ us hl => match us, hl with | [_, _], _ => rfl,
    _,
    _,
    F6,
    PySem.W.mg_of X G a6,
    F6.binds (ps := ["house"]) fun _ _ _ _ _ _ us hl => match us, hl with | [_], _ => rfl,
    _,
    _,
    F7,
    PySem.W.mg_of X G a7,
    F7.binds (ps := ["house", "heads", "hold"]) fun _ _ _ _ _ _ us hl => match us, hl with | [_, _, _], _ => rfl,
    cc7,
    pp7,
    rfl,
    ne7,
    _,
    _,
    F8,
    PySem.W.mg_of X G a8,
    F8.binds (ps := ["course"]) fun _ _ _ _ _ _ us hl => match us, hl with | [_], _ => rfl,
    _,
    _,
    F9,
    PySem.W.mg_of X G a9,
    F9.binds (ps := ["house"]) fun _ _ _ _ _ _ us hl => match us, hl with | [_], _ => rfl,
    _,
    _,
    F10,
    PySem.W.mg_of X G a10,
    F10.binds (ps := ["ago", "changes"]) fun _ _ _ _ _ _ us hl => match us, hl with | [_, _], _ => rfl,
    _,
    _,
    F11,
    PySem.W.mg_of X G a11,
    F11.binds (ps := ["house", "pasts"]) fun _ _ _ _ _ _ us hl => match us, hl with | [_, _], _ => rfl,
    _,
    _,
    F12,
    PySem.W.mg_of X G a12,
    F12.binds (ps := ["heads", "pair"]) fun _ _ _ _ _ _ us hl => match us, hl with | [_, _], _ => rfl,
    _,
    _,
    F13,
    PySem.W.mg_of X G a13,
    F13.binds (ps := ["house", "log"]) fun _ _ _ _ _ _ us hl => match us, hl with | [_, _], _ => rfl,
    _,
    _,
    F14,
    PySem.W.mg_of X G a14,
    F14.binds (ps := ["house", "log"]) fun _ _ _ _ _ _ us hl => match us, hl with | [_, _], _ => rfl,
    _,
    _,
    F15,
    PySem.W.mg_of X G a15,
    F15.binds (ps := ["house", "log"]) fun _ _ _ _ _ _ us hl => match us, hl with | [_, _], _ => rfl,
    _,
    _,
    F16,
    PySem.W.mg_of X G a16,
    F16.binds (ps := ["_law_script"]) fun _ _ _ _ _ _ us hl => match us, hl with | [_], _ => rfl,
    _,
    _,
    F17,
    PySem.W.mg_of X G a17,
    F17.binds (ps := ["_law_deck_here", "_law_many"]) fun _ _ _ _ _ _ us hl => match us, hl with | [_, _], _ => rfl,
    _,
    _,
    F18,
    PySem.W.mg_of X G a18,
    F18.binds (ps := ["_law_deck_here", "_law_items"]) fun _ _ _ _ _ _ us hl => match us, hl with | [_, _], _ => rfl,
    _,
    _,
    F19,
    PySem.W.mg_of X G a19,
    F19.binds (ps := ["_law_servers", "_law_lag"]) fun _ _ _ _ _ _ us hl => match us, hl with | [_, _], _ => rfl,
    _,
    _,
    F20,
    PySem.W.mg_of X G a20,
    F20.binds (ps := ["_law_deck_here", "_law_room"]) fun _ _ _ _ _ _ us hl => match us, hl with | [_, _], _ => rfl,
    _,
    _,
    F21,
    PySem.W.mg_of X G a21,
    F21.binds (ps := ["_law_course_here", "_law_rest"]) fun _ _ _ _ _ _ us hl => match us, hl with | [_, _], _ => rfl,
    _,
    _,
    F22,
    PySem.W.mg_of X G a22,
    F22.binds (ps := ["_law_deck_here", "_law_house_here", "_law_many"]) fun _ _ _ _ _ _ us hl => match us, hl with | [_, _, _], _ => rfl,
    _,
    _,
    F23,
    PySem.W.mg_of X G a23,
    F23.binds (ps := ["_law_house_here", "_law_course_here", "_law_moment", "_law_server"]) fun _ _ _ _ _ _ us hl => match us, hl with | [_, _, _, _], _ => rfl,
    _,
    _,
    F24,
    PySem.W.mg_of X G a24,
    F24.binds (ps := ["_law_heads", "_law_server"]) fun _ _ _ _ _ _ us hl => match us, hl with | [_, _], _ => rfl,
    _,
    _,
    F25,
    PySem.W.mg_of X G a25,
    F25.binds (ps := ["_law_deck_here", "_law_house_here", "_law_many"]) fun _ _ _ _ _ _ us hl => match us, hl with | [_, _, _], _ => rfl,
    _,
    _,
    F26,
    PySem.W.mg_of X G a26,
    F26.binds (ps := ["_law_house_here"]) fun _ _ _ _ _ _ us hl => match us, hl with | [_], _ => rfl,
    _,
    _,
    F27,
    PySem.W.mg_of X G a27,
    F27.binds (ps := ["_law_house_here", "_law_worlds_here"]) fun _ _ _ _ _ _ us hl => match us, hl with | [_, _], _ => rfl,
    _,
    _,
    F28,
    PySem.W.mg_of X G a28,
    F28.binds (ps := ["_law_house_here", "_law_log_here"]) fun _ _ _ _ _ _ us hl => match us, hl with | [_, _], _ => rfl,
    _,
    _,
    F29,
    PySem.W.mg_of X G a29,
    F29.binds (ps := ["_law_house_here", "_law_log_here"]) fun _ _ _ _ _ _ us hl => match us, hl with | [_, _], _ => rfl,
    _,
    _,
    F30,
    PySem.W.mg_of X G a30,
    F30.binds (ps := ["_law_call"]) fun _ _ _ _ _ _ us hl => match us, hl with | [_], _ => rfl,
    _,
    PySem.W.mg_of X G v_NONE_ASKED,
    x_NONE_ASKED.sq w_NONE_ASKED,
    _,
    PySem.W.mg_of X G v_NOT_CHANGED,
    PySem.W.mg_none_of X G z_abs,
    PySem.W.mg_none_of X G z_all,
    PySem.W.mg_none_of X G z_bool,
    PySem.W.mg_none_of X G z_e,
    PySem.W.mg_none_of X G z_enumerate,
    PySem.W.mg_none_of X G z_int,
    PySem.W.mg_none_of X G z_isinstance,
    PySem.W.mg_none_of X G z_len,
    PySem.W.mg_none_of X G z_list,
    PySem.W.mg_none_of X G z_max,
    PySem.W.mg_none_of X G z_min,
    PySem.W.mg_none_of X G z_range,
    PySem.W.mg_none_of X G z_repr,
    PySem.W.mg_none_of X G z_set,
    PySem.W.mg_none_of X G z_sorted,
    PySem.W.mg_none_of X G z_tuple,
    PySem.W.mg_none_of X G z_zip,
    _,
    _,
    _,
    _,
    FINoCourse,
    FINoCourse.binds (ps := ["self", "number"]) fun _ _ _ _ _ _ us hl => match us, hl with | [_, _], _ => rfl,
    ⟨PySem.W.mg_of X G eC_NoCourse, PySem.W.mg_of X G eB_NoCourse, ⟨⟨_, _, _, _, _, _, _, _, _, _, _, _, _, _, _, eL_NoCourse, eR_NoCourse⟩, eS_NoCourse, eE_NoCourse, eM_NoCourse, eK_NoCourse⟩, ⟨eG_NoCourse, eH_NoCourse, eE_NoCourse, eD_NoCourse⟩, ⟨eG_NoCourse, eH_NoCourse, eE_NoCourse, eD_NoCourse, eN_NoCourse, eO_NoCourse, eQ_NoCourse, eU_NoCourse⟩, eI_NoCourse, eT_NoCourse, eF_NoCourse, eW_NoCourse, exm_self eE_NoCourse eJ_NoCourse eM_NoCourse eP_NoCourse, kit_ref eV_NoCourse fA_NoCourse fB_NoCourse, kit_VE fC_NoCourse, exm_base fD_NoCourse eV_NoCourse fA_NoCourse fB_NoCourse⟩⟩
  refine ⟨_, T.tabs, cc31, pp31, fun_mk (st := s_law) l31 c31 k31, rfl, by simp [Txt.tabs, T], fun s u => .of_eq rfl, fun p hp => ?_, fun base _ hb => law_does T hb⟩
  have hp' : p ∈ [(cc1, pp1), (cc3, pp3), (cc7, pp7), (cc31, pp31)] := hp
  rcases List.mem_cons.mp hp' with rfl | hp'
  · exact tab_mk X (PySem.W.mg_of X G a1) l1 rfl rfl u1 v1 y1 tk1
  rcases List.mem_cons.mp hp' with rfl | hp'
  · exact tab_mk X (PySem.W.mg_of X G a3) l3 rfl rfl u3 v3 y3 tk3
  rcases List.mem_cons.mp hp' with rfl | hp'
  · exact tab_mk X (PySem.W.mg_of X G a7) l7 rfl rfl u7 v7 y7 tk7
  rcases List.mem_cons.mp hp' with rfl | hp'
  · exact tab_mk X (PySem.W.mg_of X G a31) l31 rfl rfl u31 v31 y31 tk31
  exact absurd hp' List.not_mem_nil
end Qu
open PySem PySem.W PyProof.Rows
set_option maxRecDepth 100000 in
set_option maxHeartbeats 0 in
theorem PySem.Challenge.cw_sentnext_k59_long_logs_holds : PySem.Challenge.rw_sentnext_k59_long_logs.Holds := by
  w_on; o_law; k_head; (case hw => w_witness2)
  k_fill
  refine Qu.law_walkU (l := PySem.Challenge.rw_sentnext_k59_long_logs) (x := "_law_script") (N := ["_law_script", "_law_deck_here", "_law_turn", "_law_house_here", "_law_log_here", "_law_held", "_law_found"]) (nms := ["changes_of", "heads_back", "turns", "law"]) rfl rfl Qu.sc_law (fun w h Y => PySem.W.km_in_of Y) (by decide +kernel) ?F
  case F =>
    intro w mg fa h KX G hmg hck
    refine' Qu.all_mk KX G hmg ?a0 ?l0 ?c0 ?k0 ?a1 ?l1 ?c1 ?k1 ?u1 ?v1 ?y1 ?tk1 ?a2 ?l2 ?c2 ?k2 ?a3 ?l3 ?c3 ?k3 ?u3 ?v3 ?y3 ?tk3 ?a4 ?l4 ?c4 ?k4 ?a5 ?l5 ?c5 ?k5 ?a6 ?l6 ?c6 ?k6 ?a7 ?l7 ?c7 ?k7 ?u7 ?v7 ?y7 ?tk7 ?a8 ?l8 ?c8 ?k8 ?a9 ?l9 ?c9 ?k9 ?a10 ?l10 ?c10 ?k10 ?a11 ?l11 ?c11 ?k11 ?a12 ?l12 ?c12 ?k12 ?a13 ?l13 ?c13 ?k13 ?a14 ?l14 ?c14 ?k14 ?a15 ?l15 ?c15 ?k15 ?a16 ?l16 ?c16 ?k16 ?a17 ?l17 ?c17 ?k17 ?a18 ?l18 ?c18 ?k18 ?a19 ?l19 ?c19 ?k19 ?a20 ?l20 ?c20 ?k20 ?a21 ?l21 ?c21 ?k21 ?a22 ?l22 ?c22 ?k22 ?a23 ?l23 ?c23 ?k23 ?a24 ?l24 ?c24 ?k24 ?a25 ?l25 ?c25 ?k25 ?a26 ?l26 ?c26 ?k26 ?a27 ?l27 ?c27 ?k27 ?a28 ?l28 ?c28 ?k28 ?a29 ?l29 ?c29 ?k29 ?a30 ?l30 ?c30 ?k30 ?a31 ?l31 ?c31 ?k31 ?u31 ?v31 ?y31 ?tk31 ?v_NONE_ASKED ?w_NONE_ASKED ?x_NONE_ASKED ?v_NOT_CHANGED ?z_abs ?z_all ?z_bool ?z_e ?z_enumerate ?z_int ?z_isinstance ?z_len ?z_list ?z_max ?z_min ?z_range ?z_repr ?z_set ?z_sorted ?z_tuple ?z_zip ?ne1 ?ne3 ?ne7 ?eC_NoCourse ?eB_NoCourse ?eL_NoCourse ?eR_NoCourse ?eS_NoCourse ?eG_NoCourse ?eH_NoCourse ?eF_NoCourse ?eW_NoCourse ?eI_NoCourse ?eT_NoCourse ?eX_NoCourse ?eY_NoCourse ?eZ_NoCourse ?eK_NoCourse ?eE_NoCourse ?eM_NoCourse ?eD_NoCourse ?eJ_NoCourse ?eP_NoCourse ?eN_NoCourse ?eO_NoCourse ?eQ_NoCourse ?eU_NoCourse ?eV_NoCourse ?fA_NoCourse ?fB_NoCourse ?fD_NoCourse ?fC_NoCourse
    (case a0 => k_is)
    (case l0 => k_is)
    (case c0 => k_is)
    (case k0 => k_is)
    (case a1 => k_is)
    (case l1 => k_is)
    (case c1 => k_is)
    (case k1 => k_is)
    (case u1 => k_is)
    (case v1 => exact ⟨_, rfl, rfl⟩)
    (case y1 => rfl)
    (case tk1 => exact hck "changes_of" (by simp))
    (case a2 => k_is)
    (case l2 => k_is)
    (case c2 => k_is)
    (case k2 => k_is)
    (case a3 => k_is)
    (case l3 => k_is)
    (case c3 => k_is)
    (case k3 => k_is)
    (case u3 => k_is)
    (case v3 => exact ⟨_, rfl, rfl⟩)
    (case y3 => rfl)
    (case tk3 => exact hck "heads_back" (by simp))
    (case a4 => k_is)
    (case l4 => k_is)
    (case c4 => k_is)
    (case k4 => k_is)
    (case a5 => k_is)
    (case l5 => k_is)
    (case c5 => k_is)
    (case k5 => k_is)
    (case a6 => k_is)
    (case l6 => k_is)
    (case c6 => k_is)
    (case k6 => k_is)
    (case a7 => k_is)
    (case l7 => k_is)
    (case c7 => k_is)
    (case k7 => k_is)
    (case u7 => k_is)
    (case v7 => exact ⟨_, rfl, rfl⟩)
    (case y7 => rfl)
    (case tk7 => exact hck "turns" (by simp))
    (case a8 => k_is)
    (case l8 => k_is)
    (case c8 => k_is)
    (case k8 => k_is)
    (case a9 => k_is)
    (case l9 => k_is)
    (case c9 => k_is)
    (case k9 => k_is)
    (case a10 => k_is)
    (case l10 => k_is)
    (case c10 => k_is)
    (case k10 => k_is)
    (case a11 => k_is)
    (case l11 => k_is)
    (case c11 => k_is)
    (case k11 => k_is)
    (case a12 => k_is)
    (case l12 => k_is)
    (case c12 => k_is)
    (case k12 => k_is)
    (case a13 => k_is)
    (case l13 => k_is)
    (case c13 => k_is)
    (case k13 => k_is)
    (case a14 => k_is)
    (case l14 => k_is)
    (case c14 => k_is)
    (case k14 => k_is)
    (case a15 => k_is)
    (case l15 => k_is)
    (case c15 => k_is)
    (case k15 => k_is)
    (case a16 => k_is)
    (case l16 => k_is)
    (case c16 => k_is)
    (case k16 => k_is)
    (case a17 => k_is)
    (case l17 => k_is)
    (case c17 => k_is)
    (case k17 => k_is)
    (case a18 => k_is)
    (case l18 => k_is)
    (case c18 => k_is)
    (case k18 => k_is)
    (case a19 => k_is)
    (case l19 => k_is)
    (case c19 => k_is)
    (case k19 => k_is)
    (case a20 => k_is)
    (case l20 => k_is)
    (case c20 => k_is)
    (case k20 => k_is)
    (case a21 => k_is)
    (case l21 => k_is)
    (case c21 => k_is)
    (case k21 => k_is)
    (case a22 => k_is)
    (case l22 => k_is)
    (case c22 => k_is)
    (case k22 => k_is)
    (case a23 => k_is)
    (case l23 => k_is)
    (case c23 => k_is)
    (case k23 => k_is)
    (case a24 => k_is)
    (case l24 => k_is)
    (case c24 => k_is)
    (case k24 => k_is)
    (case a25 => k_is)
    (case l25 => k_is)
    (case c25 => k_is)
    (case k25 => k_is)
    (case a26 => k_is)
    (case l26 => k_is)
    (case c26 => k_is)
    (case k26 => k_is)
    (case a27 => k_is)
    (case l27 => k_is)
    (case c27 => k_is)
    (case k27 => k_is)
    (case a28 => k_is)
    (case l28 => k_is)
    (case c28 => k_is)
    (case k28 => k_is)
    (case a29 => k_is)
    (case l29 => k_is)
    (case c29 => k_is)
    (case k29 => k_is)
    (case a30 => k_is)
    (case l30 => k_is)
    (case c30 => k_is)
    (case k30 => k_is)
    (case a31 => k_is)
    (case l31 => k_is)
    (case c31 => k_is)
    (case k31 => k_is)
    (case u31 => k_is)
    (case v31 => exact ⟨_, rfl, rfl⟩)
    (case y31 => rfl)
    (case tk31 => exact hck "law" (by simp))
    (case v_NONE_ASKED => k_is)
    (case w_NONE_ASKED => k_is)
    (case x_NONE_ASKED => exact ⟨_, _, rfl, rfl, by decide, .cons ⟨_, rfl⟩ (.cons ⟨_, rfl⟩ (.nil))⟩)
    (case v_NOT_CHANGED => k_is)
    (case z_abs => k_is)
    (case z_all => k_is)
    (case z_bool => k_is)
    (case z_e => k_is)
    (case z_enumerate => k_is)
    (case z_int => k_is)
    (case z_isinstance => k_is)
    (case z_len => k_is)
    (case z_list => k_is)
    (case z_max => k_is)
    (case z_min => k_is)
    (case z_range => k_is)
    (case z_repr => k_is)
    (case z_set => k_is)
    (case z_sorted => k_is)
    (case z_tuple => k_is)
    (case z_zip => k_is)
    (case ne1 => decide)
    (case ne3 => decide)
    (case ne7 => decide)
    (case eC_NoCourse => k_is)
    (case eB_NoCourse => k_is)
    (case eL_NoCourse => k_is)
    (case eR_NoCourse => decide +kernel)
    (case eS_NoCourse => k_is)
    (case eG_NoCourse => k_is)
    (case eH_NoCourse => k_is)
    (case eF_NoCourse => k_is)
    (case eW_NoCourse => k_is)
    (case eI_NoCourse => k_is)
    (case eT_NoCourse => k_is)
    (case eX_NoCourse => k_is)
    (case eY_NoCourse => k_is)
    (case eZ_NoCourse => k_is)
    (case eK_NoCourse => k_is)
    (case eE_NoCourse => k_is)
    (case eM_NoCourse => k_is)
    (case eD_NoCourse => k_is)
    (case eJ_NoCourse => k_is)
    (case eP_NoCourse => k_is)
    (case eN_NoCourse => k_is)
    (case eO_NoCourse => k_is)
    (case eQ_NoCourse => k_is)
    (case eU_NoCourse => k_is)
    (case eV_NoCourse => k_is)
    (case fA_NoCourse => k_is)
    (case fB_NoCourse => k_is)
    (case fD_NoCourse => k_is)
    (case fC_NoCourse => k_is)
